/-
  draughts.Moves, walked. No conditions beyond those that each theorem bears.
-/
import Derived.Test.YtnbaangnpoblfaaDoorNr
import Derived.Test.YtnbaangnpoblfaaDoorSn
import Derived.Test.YtnbaangnpoblfaaDoorFl
namespace Go.Proofs.YtnbaangnpoblfaaDoor
open Go.RowKit Go.Shelf

/-- What is handed out for a way by numbers. -/
def WyN (y : List Nat × List Nat) (args : Array Value) (_ : World) : Prop := args = #[.agg (wyL (y.1.map e2) (mkO y.2)).toArray]

/-- The same things under other names. -/
theorem SeqO.map {α β : Type} {P : Program} {g : Nat} {lb : Array Value} {G : β → Array Value → World → Prop} {f : α → β} {ys : List α} {R : World → Prop} {T : Nat → Prop} (h : SeqO P g lb G (ys.map f) R T) :
    SeqO P g lb (fun y => G (f y)) ys R T := by
  intro l J Jx N0 W O0 hR hN hC hY h0
  refine (h l (fun O s A => ∃ s', s = s'.map f ∧ s' <+: ys ∧ J O s' A) Jx N0 W O0 hR hN ?_ ?_ ⟨[], rfl, List.nil_prefix, h0⟩).mono ?_
  · refine ⟨?_, hC.ltx, ?_, hC.keepx⟩
    · rintro O s A ⟨s', _, _, hj⟩; exact hC.lt _ _ _ hj
    · rintro O s A B ⟨s', e, hp, hj⟩ hk; exact ⟨s', e, hp, hC.keep _ _ _ _ hj hk⟩
  · rintro O pre x args W1 ⟨s', rfl, hp, hj⟩ hpre hG hsz
    obtain ⟨y, hy, rfl⟩ : ∃ y, (s' ++ [y]) <+: ys ∧ f y = x := by
      have hl := hpre.length_le
      simp only [List.length_append, List.length_map, List.length_singleton] at hl
      have hlt : s'.length < ys.length := by omega
      refine ⟨ys[s'.length], ?_, ?_⟩
      · have h1 : ys.take s'.length = s' := (List.prefix_iff_eq_take.1 hp).symm
        have h2 := List.take_succ_eq_append_getElem hlt
        rw [h1] at h2
        rw [← h2]; exact List.take_prefix _ _
      · obtain ⟨u, hu⟩ := hpre
        have := congrArg (fun l : List β => l[s'.length]?) hu
        simp only [List.append_assoc, List.getElem?_map, List.getElem?_eq_getElem hlt, Option.map_some] at this
        rw [List.getElem?_append_right (by simp)] at this
        simpa using this.symm
    have hyy := hY O s' y args W1 hj hy hG hsz
    obtain ⟨fn, tmps, assign, body, hrun, hRR⟩ := hyy
    refine ⟨fn, tmps, assign, body, hrun, hRR.mono ?_⟩
    rintro e W' ⟨hk, O', hm, hh⟩
    refine ⟨hk, O', hm, ?_⟩
    rcases hh with ⟨rfl, hj'⟩ | hh
    · exact Or.inl ⟨rfl, s' ++ [y], by simp, hy, hj'⟩
    · exact Or.inr hh
  · rintro e W' ⟨hv, hk, O', hm, hh⟩
    refine ⟨hv, hk, O', hm, ?_⟩
    rcases hh with ⟨s', e1, hp, hj⟩ | hh
    · have hl : s'.length = ys.length := by have := congrArg List.length e1; simpa using this.symm
      rw [← hp.eq_of_length hl]; exact Or.inl hj
    · exact Or.inr hh

theorem waysN_o {Z : List Int} {t : Nat} (hM : Mb Z t) (bb : Nat) : SeqO Tryd.prog 60 #[.pointer (some ⟨bb, 0, none⟩)] WyN (wyN Z t) (WaR bb (sn Z t)) (WaT bb) := by
  have := ways1_o (sn Z t) (sn_ok hM) bb
  rw [ways_sn hM] at this
  exact this.map

theorem wpListIn_store_vb {l n : Nat} {ops : Array Oper} {rest : List Oper} {o : Oper} {a : Act} {w : World} {Q : Exit → Act → World → Prop} (hgd : o.guard = none) (t : Nat) (x y : Operand) (ho : o.op = .store t x y)
    (g : Nat) (L M : List Value) (hx : a.eval x = .pointer (some ⟨g, 0, none⟩)) (hy : a.eval y = .agg L.toArray) (hb : Vb w g t M) (hl : M.length = L.length) (hs : (Tryd.prog.info? t).map (·.size) = some L.length) (h1 : ∀ u ∈ L, u.oneCell' = true)
    (h : ∀ w', Vb w' g t L → Keeps (fun k => k = g) w w' → wpListIn (Fence.wide.inRound l) n Tryd.prog ops Q rest (a.put o.dst undef) w') : wpListIn (Fence.wide.inRound l) n Tryd.prog ops Q (o :: rest) a w := by
  refine wpListIn_plain hgd fun _ hK => ?_
  have hb' : w.heap[g]? = _ := hb
  refine oper_round (fun c e => by rw [ho] at e; cases e) (wp_store_row t x y ho g L.toArray hx hy t M.toArray hb' (by rw [List.size_toArray]; exact hs) (by simp [hl]) (by simpa using h1) ?_)
  refine hK _ _ (h _ ?_ ?_)
  · simp [Vb, World.setRow, Array.getElem?_modify, hb']
  · exact ⟨rfl, rfl, rfl, by simp [World.setRow], fun k _ hk => by simp [World.setRow, Array.getElem?_modify, show ¬ g = k from fun e => hk e.symm]⟩

/-- The numbers of a way. -/
theorem numbersN {Z : List Int} {t : Nat} {y : List Nat × List Nat} (hy : WOk Z t y) (w : World) (hT : TzT w) :
    Calls Tryd.prog 36 #[.agg (wyL (y.1.map e2) (mkO y.2)).toArray] w fun e w' => ∃ a c, e = .returned (.slice a y.1.length c) ∧ w'.ownsRow w.heap.size 3 1 (.slice a y.1.length c) y.1.length ((toI y.1).map (Value.int .i64)) ∧ Below w.heap.size w w' := by
  have h := numbers_any (y.1.map bitn) (mkO y.2) (by rw [List.length_map]; exact hy.le) (fun k hk => by
    obtain ⟨p, hp, rfl⟩ := List.mem_map.1 hk
    have := bitn_lt (hy.rng p hp).2; omega) w hT
  have e1 : (y.1.map bitn).map pw2 = y.1.map e2 := by rw [List.map_map]; rfl
  have e2' : (y.1.map bitn).map numb = y.1 := by
    rw [List.map_map]
    conv => rhs; rw [← List.map_id y.1]
    apply List.map_congr_left
    intro p hp
    exact numb_bitn (hy.rng p hp).1
  rw [e1, e2', List.length_map] at h
  exact h

end Go.Proofs.YtnbaangnpoblfaaDoor
