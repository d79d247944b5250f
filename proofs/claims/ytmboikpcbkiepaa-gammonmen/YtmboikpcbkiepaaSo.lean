/-
  slices.SortFunc with the closure of Moves. No conditions beyond those that each theorem bears.
-/
import Derived.Test.YtmboikpcbkiepaaSoL
import Derived.Test.YtmboikpcbkiepaaSoB
namespace Go.Proofs.Ytmboikpcbkiepaa
open Go.RowKit Go.Shelf

theorem rd_sort {α : Type} [Inhabited α] (enc : α → List Value) (k : Nat) {w : World} {blk off m : Nat} {dk : Array α} {os : Array Obj} {g c : Nat} {P : List Int} (h : Rd w (some ⟨g, 0, none⟩) 26 c P) (hne : g ≠ blk) : Rd (sortWorldK enc k w blk off m dk os) (some ⟨g, 0, none⟩) 26 c P := by
  refine ⟨h.len, h.cap, h.max, h.nil, fun h0 => ?_⟩
  obtain ⟨b, off', e, hc⟩ := h.cells h0
  refine ⟨b, off', e, fun i hi => ?_⟩
  have hb := World.block_lt_of_cell? w _ (hc i hi)
  simp only [Option.some.injEq, Addr.mk.injEq] at e
  rw [cell?_sortWorldK_other enc k w blk off m dk os _ (by rw [← e.1]; exact hne) hb]
  exact hc i hi

theorem below_sort {α : Type} [Inhabited α] (enc : α → List Value) (k : Nat) {w : World} {base blk off m : Nat} {dk : Array α} {os : Array Obj} (hb : base ≤ blk) (hl : blk < w.heap.size) : Below base w (sortWorldK enc k w blk off m dk os) := by
  refine ⟨rfl, rfl, rfl, ?_, fun i hi => ?_⟩
  · show w.heap.size ≤ ((w.heap.modify blk _) ++ os).size
    rw [Array.size_append, Array.size_modify]
    omega
  · show ((w.heap.modify blk _) ++ os)[i]? = _
    rw [Array.getElem?_append_left (by rw [Array.size_modify]; omega), Array.getElem?_modify, if_neg (by omega)]

theorem ltC {w : World} {blk : Nat} (a b : Cl w blk) : ltOf (fun a b : Cl w blk => cB a.x b.x) a b = lessO a.x b.x := by
  unfold ltOf
  exact cB_less a.rd.len b.rd.len

theorem swoC (w : World) (blk : Nat) : Go.Sort.SWO (ltOf (fun a b : Cl w blk => cB a.x b.x)) where
  irrefl x := by rw [ltC]; exact lessO_self _
  trans x y z h1 h2 := by rw [ltC] at *; exact lessO_trans h1 h2
  ntrans x y z h1 h2 := by
    rw [ltC] at *
    rw [Bool.eq_false_iff]
    intro h3
    rcases lessO_tri x.rd.len y.rd.len with e | e | e
    · rw [h1] at e; cases e
    · rw [e] at h3; rw [h3] at h2; cases h2
    · have := lessO_trans e h3
      rw [this] at h2; cases h2

set_option maxRecDepth 100000 in
set_option maxHeartbeats 2000000 in
theorem sort_any (base : Nat) (w : World) (T : Int) (v : Value) (L : List Bo) (hB : Bs base w T v L) (hL : L ≠ []) (hn : L.length ≤ 1000000) :
    Calls Try.prog 38 #[v, .func (.func 39) #[] #[]] w fun e w' => e = .returned (.tuple #[]) ∧ ∃ L' ga cap, v = .slice (some ⟨ga, 0, none⟩) L.length cap ∧ L'.Perm L ∧ L'.Pairwise (fun a b => lessO b a = false) ∧ Br w' T ga L.length cap L' ∧ Below base w w' := by
  have hB' := hB
  obtain ⟨vs, h1, h2, h3⟩ := hB'
  have h1' := h1
  obtain ⟨ga, cap, cur, hv, hbg, hblk, q1, q2, q3, q4⟩ := h1'.2.resolve_left (fun e => hL (List.eq_nil_of_length_eq_zero e.2))
  subst hv
  have hne : ∀ g c P, Rd w (some ⟨g, 0, none⟩) 26 c P → g ≠ ga := fun g c P hR e => apart hB hR (by rw [e]; rfl)
  obtain ⟨D, hD, hcell⟩ := Bv.cl hne h2
  have hDl : D.length = L.length := by rw [← hD, List.length_map]
  have hvl := h2.len
  have hL0 : 0 < L.length := List.length_pos_iff.2 hL
  have hgl : ga < w.heap.size := by
    have := hblk
    rw [Array.getElem?_eq_some_iff] at this
    exact this.1
  haveI : Inhabited (Cl w ga) := ⟨D[0]'(by omega)⟩
  have hH : Go.Sort.HoldsK (encC T) 4 w ga 0 D.toArray := by
    intro j hj
    rw [Go.Sort.size_flatK, List.size_toArray] at hj
    rw [Go.Sort.get_flatK _ _ _ _ (by rw [List.size_toArray]; exact hj)]
    have hj' : j / 4 < D.length := by omega
    have hx : D[j / 4]? = some D.toArray[j / 4]! := by
      rw [getElem!_pos D.toArray (j / 4) (by simpa using hj')]
      simp [hj']
    have h4 : j % 4 < 4 := Nat.mod_lt _ (by omega)
    refine ⟨?_, h1.frozenAt _⟩
    have hg : (encC T D.toArray[j / 4]!)[j % 4]? = some (encC T D.toArray[j / 4]!)[j % 4]! := by
      rw [List.getElem!_eq_getElem?_getD, List.getElem?_eq_getElem (show j % 4 < (encC T D.toArray[j / 4]!).length from h4)]
      rfl
    have := hcell (j / 4) _ hx (j % 4) _ hg
    rw [show j / 4 * 4 + j % 4 = j by omega] at this
    rw [Nat.zero_add, h1.cellAt j (by omega)]
    exact this
  have hC : CmpLays Try.prog 39 #[] (encC T) 4 (fun a b : Cl w ga => cB a.x b.x) ga 0 D.toArray.size w := by
    intro m os dk hs x y
    refine (closure_any x.g x.c y.g y.c x.x y.x T T _ (rd_sort _ _ x.rd x.ne) (rd_sort _ _ y.rd y.ne)).mono ?_
    rintro e w' ⟨rfl, o1, o2, o3, rfl⟩
    refine ⟨rfl, 1, #[o1] ++ #[o2] ++ #[o3], ?_⟩
    rw [Go.Sort.alloc_eq_grow, Go.Sort.alloc_eq_grow, Go.Sort.alloc_eq_grow, Go.Sort.grow_grow, Go.Sort.grow_grow]
    rfl
  have eg : ∀ args w, (callFunc 39 args).run Try.prog w = .ok (.enter 39 args) w := enters_of Try.func39 (by kernel_rfl) rfl
  have hcon := AnyQ.slices_SortFunc Try.sortGm 4 Try.isAgg24 Try.sizeOf24 (encC T) (fun _ => rfl) (fun z u hu => by
    simp only [List.mem_cons, List.not_mem_nil, or_false] at hu
    rcases hu with rfl | rfl | rfl | rfl <;> rfl) (fun a b : Cl w ga => cB a.x b.x) (swoC w ga) 39 #[] ga 0 cap D.toArray w eg hC hH hgl (show D.length < 4611686018427387904 by omega)
  change Calls Try.prog 38 _ _ _ at hcon
  rw [List.size_toArray, hDl] at hcon
  refine hcon.mono ?_
  rintro e w' ⟨rfl, d', n, os, hp, hs, rfl⟩
  have hd' : d'.size = L.length := by rw [hp.1, List.size_toArray, hDl]
  refine ⟨rfl, d'.toList.map Cl.x, ga, cap, rfl, ?_, ?_, ⟨by simp [hd'], q1, q2, fun j hj => ?_⟩, below_sort _ _ hbg hgl⟩
  · have h := hp.2.2
    have e1 : d'.extract 0 L.length = d' := by rw [← hd', Array.extract_size]
    have e2 : D.toArray.extract 0 L.length = D.toArray := by
      have : L.length = D.toArray.size := by rw [List.size_toArray, hDl]
      rw [this, Array.extract_size]
    rw [e1, e2] at h
    rw [← hD]
    exact h.map _
  · rw [List.pairwise_iff_getElem]
    intro i j hi hj hij
    rw [List.length_map, Array.length_toList] at hi hj
    have := hs i j (Nat.zero_le _) hij (by omega)
    rw [ltC, getElem!_pos d' i hi, getElem!_pos d' j hj] at this
    simpa using this
  · rw [List.length_map, Array.length_toList] at hj
    have hx : (d'.toList.map Cl.x).getD j b0 = (d'[j]!).x := by
      rw [getElem!_pos d' j hj]
      simp [List.getD, hj]
    rw [hx]
    refine ⟨(d'[j]!).g, (d'[j]!).c, fun i u hu => ?_, rd_sort _ _ (d'[j]!).rd (d'[j]!).ne⟩
    have hi : i < 4 := (List.getElem?_eq_some_iff.1 hu).1
    have hH2 : Go.Sort.HoldsK (encC T) 4 (sortWorldK (encC T) 4 w ga 0 n d' os) ga 0 d' :=
      Go.Sort.holdsK_grow _ _ _ _ _ _ _ (by rw [Go.Sort.size_putRowK]; exact hgl) (Go.Sort.holdsK_putRowK _ _ _ _ _ D.toArray d' hH (show d'.size = D.length by rw [hDl, hd']))
    have := (hH2.cell (i := j) (c := i) hj hi).1
    rw [show 0 + j * 4 + i = 4 * j + i by omega] at this
    rw [this]
    have e : (encC T d'[j]!)[i]! = u := by
      rw [List.getElem!_eq_getElem?_getD, show (encC T d'[j]!)[i]? = some u from hu]
      rfl
    rw [e]

end Go.Proofs.Ytmboikpcbkiepaa
