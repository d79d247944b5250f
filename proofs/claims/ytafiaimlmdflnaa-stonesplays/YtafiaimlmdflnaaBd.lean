/-
  A range over a function that changes nothing is one that owns nothing; marks of ranges beside what rounds own; the neighbours of places, one by one. No conditions beyond those that each theorem bears.
-/
import Derived.Test.YtafiaimlmdflnaaRo
import Derived.Test.YtafiaimlmdflnaaHs
namespace Go.Proofs.Ytafiaimlmdflnaa
open Go.RowKit Go.Shelf

theorem SeqQ.toO {α : Type} {P : Program} {g : Nat} {lb : Array Value} {G : α → Array Value → World → Prop} {xs : List α} {R : World → Prop} {T : Nat → Prop} (h : SeqQ P g lb G xs R T 0) (hT : ∀ W, R W → ∀ k, T k → k < W.heap.size) : SeqO P g lb G xs R T := by
  intro l J Jx N0 W O0 hR hN hC hY h0
  have hO0 := hC.lt _ _ _ h0
  have hTW := hT W hR
  refine (h l (fun k => O0 k ∨ W.heap.size ≤ k) (fun s A => ∃ O, J O s A ∧ Keeps O0 W A ∧ ∀ k, k < W.heap.size → O k → O0 k) (fun A => ∃ O, Jx O A ∧ Keeps O0 W A ∧ ∀ k, k < W.heap.size → O k → O0 k) W hR ?_ ?_ ?_ ?_ ⟨O0, h0, Keeps.refl _ _, fun _ _ h => h⟩).mono ?_
  · rintro k (hk | hk)
    · exact ⟨(hO0 k hk).2, fun e => by omega⟩
    · exact ⟨fun ht => by have := hTW k ht; omega, fun e => by omega⟩
  · rintro s A B ⟨O, h1, h2, h3⟩ hk
    exact ⟨O, hC.keep _ _ _ _ h1 (hk.mono (fun k _ e => by omega)), h2.after hk (fun i _ e => by omega), h3⟩
  · rintro A B ⟨O, h1, h2, h3⟩ hk
    exact ⟨O, hC.keepx _ _ _ h1 (hk.mono (fun k _ e => by omega)), h2.after hk (fun i _ e => by omega), h3⟩
  · rintro pre x args W1 ⟨O, h1, h2, h3⟩ hpre hG hsz
    have hs1 : W.heap.size ≤ W1.heap.size := h2.size
    obtain ⟨fn, tmps, assign, body, hy, hF, hRR⟩ := hY O pre x args W1 h1 hpre hG (by omega)
    refine ⟨fn, tmps, assign, body, hy, RoundIn.mono ⟨hF, hRR⟩ ?_⟩
    rintro e W' ⟨hk, O', hO', hh⟩
    have hk2 : Keeps O0 W W' := h2.after hk (fun i hi e => h3 i hi e)
    have h3' : ∀ k, k < W.heap.size → O' k → O0 k := fun k hk h => h3 k hk (hO' k (by omega) h)
    refine ⟨?_, hk.mono (fun k hk' e => ?_)⟩
    · rcases hh with ⟨e1, hj⟩ | ⟨e1, hj⟩
      · exact .inl ⟨e1, O', hj, hk2, h3'⟩
      · exact .inr ⟨e1, O', hj, hk2, h3'⟩
    · by_cases hlt : k < W.heap.size
      · exact .inl (h3 k hlt e)
      · exact .inr (by omega)
  · rintro e W' ⟨hv, _, hh⟩
    rcases hh with ⟨O, h1, h2, h3⟩ | ⟨O, h1, h2, h3⟩
    · exact ⟨hv, h2, O, h3, .inl h1⟩
    · exact ⟨hv, h2, O, h3, .inr h1⟩

theorem nb1_o (gb pb sb db p W H : Nat) (a : Option Addr) (N c : Nat) (hW : 1 ≤ W ∧ W ≤ 10) (hH : 1 ≤ H ∧ H ≤ 10) (hp : p < W * H) :
    SeqO Try.prog 87 #[.pointer (some ⟨sb, 0, none⟩), .pointer (some ⟨pb, 0, none⟩), .pointer (some ⟨gb, 0, none⟩)] NbG (nb4 W H p) (NbR gb pb sb db p W H a N c) (NbT gb pb sb db) :=
  (nb1_seq gb pb sb db p W H a N c hW hH hp).toO (fun _ hR => hR.lt)

/-- Marks of ranges that are over, none of them among the blocks O. -/
def MarksO (lo : Nat) (O : Nat → Prop) (w : World) (ds : List Deferred) : Prop := ∃ Ds : List Nat, ds = Ds.map mkD ∧ Ds.Nodup ∧ (∀ D ∈ Ds, w.heap[D]? = some (.deferred (some []))) ∧ ∀ D ∈ Ds, lo ≤ D ∧ ¬ O D

theorem MarksO.nil (lo : Nat) (O : Nat → Prop) (w : World) : MarksO lo O w [] := ⟨[], rfl, by simp, (fun D h => by cases h), fun D h => by cases h⟩

theorem MarksO.keeps {lo : Nat} {O O' : Nat → Prop} {w w' : World} {ds : List Deferred} (h : MarksO lo O w ds) (hk : Keeps O w w') (hO : ∀ k, k < w.heap.size → O' k → O k) : MarksO lo O' w' ds := by
  obtain ⟨Ds, h1, h2, h3, h4⟩ := h
  exact ⟨Ds, h1, h2, fun D hD => (hk.block D (Array.getElem?_eq_some_iff.1 (h3 D hD)).1 (h4 D hD).2).trans (h3 D hD), fun D hD => ⟨(h4 D hD).1, fun e => (h4 D hD).2 (hO D (Array.getElem?_eq_some_iff.1 (h3 D hD)).1 e)⟩⟩

theorem MarksO.push {lo : Nat} {O O' : Nat → Prop} {w w' : World} {ds : List Deferred} {D : Nat} (h : MarksO lo O w ds) (hk : Keeps O w w') (hO : ∀ k, k < w.heap.size → O' k → O k) (hD : w.heap.size ≤ D) (hlo : lo ≤ D) (hD' : w'.heap[D]? = some (.deferred (some []))) (hOD : ¬ O' D) : MarksO lo O' w' ({ target := .collected D, args := #[] } :: ds) := by
  obtain ⟨Ds, h1, h2, h3, h4⟩ := h.keeps hk hO
  obtain ⟨Es, g1, g2, g3, g4⟩ := h
  have hEs : Es = Ds := by
    have := g1.symm.trans h1
    have hh := congrArg (List.map fun d => match d.target with | .collected n => n | _ => 0) this
    simpa [mkD, Function.comp_def] using hh
  refine ⟨D :: Ds, by rw [h1]; rfl, List.nodup_cons.2 ⟨fun hm => ?_, h2⟩, fun E hE => ?_, fun E hE => Or.elim (List.mem_cons.1 hE) (fun e => e ▸ ⟨hlo, hOD⟩) (fun hE => h4 E hE)⟩
  · have := (Array.getElem?_eq_some_iff.1 (g3 D (by rw [hEs]; exact hm))).1
    omega
  · rcases List.mem_cons.1 hE with rfl | hE
    · exact hD'
    · exact h3 E hE

theorem leaves_marksO {F : Fence} {n : Nat} {P : Program} {fn : Func} {tmps : Array Value} {R : Ending → World → Prop} {lo : Nat} {O : Nat → Prop} {w : World} {ds : List Deferred} (h : MarksO lo O w ds)
    (hR : ∀ w', Keeps (fun k => lo ≤ k ∧ ¬ O k) w w' → LeavesIn F n P fn tmps R [] .returning w') : LeavesInM F n P fn tmps R ds .returning w := by
  obtain ⟨Ds, rfl, h2, h3, h4⟩ := h
  have key : ∀ (Ds : List Nat) (w1 : World), Ds.Nodup → (∀ D ∈ Ds, w1.heap[D]? = some (.deferred (some []))) → (∀ D ∈ Ds, lo ≤ D ∧ ¬ O D) → Keeps (fun k => lo ≤ k ∧ ¬ O k) w w1 → LeavesInM F n P fn tmps R (Ds.map mkD) .returning w1 := by
    intro Ds
    induction Ds with
    | nil => exact fun w1 _ _ _ hk => hR w1 hk
    | cons D Ds ih =>
      intro w1 hnd h1 h2 hk
      refine ⟨by simp, .inl ⟨D, _, rfl, run_takeDeferred (h1 D (by simp)), ih _ (List.nodup_cons.1 hnd).2 (fun E hE => ?_) (fun E hE => h2 E (List.mem_cons_of_mem _ hE)) (hk.put (l := D) (h2 D (by simp)) _)⟩⟩
      have hne : E ≠ D := by
        rintro rfl
        exact (List.nodup_cons.1 hnd).1 hE
      first
        | exact (World.putObj_heap_other hne).trans (h1 E (List.mem_cons_of_mem _ hE))
        | exact (World.putObj_heap_other hne.symm).trans (h1 E (List.mem_cons_of_mem _ hE))
  exact key Ds w h2 h3 h4 (Keeps.refl _ _)

end Go.Proofs.Ytafiaimlmdflnaa
