/-
  Chess: the attackers of a place, one kind behind the other; marks that ranges over functions leave. No conditions beyond those that each theorem bears.
-/
import Derived.Test.YtdmlamnonbmboaaGreatDoorV10
import Derived.Laws.EntriesVeiled
namespace Go.Proofs.YtdmlamnonbmboaaGreatDoor
open Go.RowKit Go.Shelf

/-- A range's mark among the deferred calls. -/
def mkD (D : Nat) : Deferred := { target := .collected D, args := #[] }

/-- Marks of ranges that are over; none is the rounds' own. -/
def Mks (O : Nat → Prop) (lo : Nat) (w : World) (ds : List Deferred) : Prop := ∃ Ds : List Nat, ds = Ds.map mkD ∧ Ds.Nodup ∧ ∀ D ∈ Ds, w.heap[D]? = some (.deferred (some [])) ∧ lo ≤ D ∧ ¬ O D

theorem Mks.nil (O : Nat → Prop) (lo : Nat) (w : World) : Mks O lo w [] := ⟨[], rfl, by simp, fun D h => by cases h⟩

theorem Mks.keeps {X O O' : Nat → Prop} {lo : Nat} {w w' : World} {ds : List Deferred} (h : Mks O lo w ds) (hk : Keeps X w w') (hX : ∀ D, w.heap[D]? = some (.deferred (some [])) → ¬ O D → ¬ X D) (hO : ∀ D, D < w.heap.size → O' D → O D) : Mks O' lo w' ds := by
  obtain ⟨Ds, h1, h2, h3⟩ := h
  refine ⟨Ds, h1, h2, fun D hD => ?_⟩
  obtain ⟨a, b, c⟩ := h3 D hD
  have hlt := (Array.getElem?_eq_some_iff.1 a).1
  exact ⟨(hk.block D hlt (hX D a c)).trans a, b, fun e => c (hO D hlt e)⟩

theorem Mks.push {O : Nat → Prop} {lo : Nat} {w : World} {ds : List Deferred} {D n : Nat} (h : Mks O lo w ds) (hn : ∀ Ds : List Nat, ds = Ds.map mkD → ∀ E ∈ Ds, E < n) (hD : n ≤ D) (hlo : lo ≤ D) (hO : ¬ O D) (hD' : w.heap[D]? = some (.deferred (some []))) : Mks O lo w ({ target := .collected D, args := #[] } :: ds) := by
  obtain ⟨Ds, h1, h2, h3⟩ := h
  refine ⟨D :: Ds, by rw [h1]; rfl, List.nodup_cons.2 ⟨fun hm => ?_, h2⟩, fun E hE => ?_⟩
  · have := hn Ds h1 D hm
    omega
  · rcases List.mem_cons.1 hE with rfl | hE
    · exact ⟨hD', hlo, hO⟩
    · exact h3 E hE

theorem mkD_inj {Ds Es : List Nat} (h : Ds.map mkD = Es.map mkD) : Ds = Es := by
  have hi : ∀ a b, mkD a = mkD b → a = b := by
    intro a b e
    have := congrArg Deferred.target e
    simpa [mkD] using this
  exact List.map_inj_right (fun a b => hi a b) |>.1 h

theorem Mks.old {O : Nat → Prop} {lo : Nat} {w : World} {ds : List Deferred} (h : Mks O lo w ds) : ∀ Ds : List Nat, ds = Ds.map mkD → ∀ E ∈ Ds, E < w.heap.size := by
  obtain ⟨Es, h1, h2, h3⟩ := h
  intro Ds hd E hE
  obtain rfl : Ds = Es := mkD_inj (hd.symm.trans h1)
  exact (Array.getElem?_eq_some_iff.1 (h3 E hE).1).1

theorem leaves_mks {F : Fence} {n : Nat} {P : Program} {fn : Func} {tmps : Array Value} {R : Ending → World → Prop} {O : Nat → Prop} {lo : Nat} {w : World} {ds : List Deferred} (h : Mks O lo w ds)
    (hR : ∀ w', Keeps (fun k => lo ≤ k ∧ ¬ O k) w w' → LeavesIn F n P fn tmps R [] .returning w') : LeavesInM F n P fn tmps R ds .returning w := by
  obtain ⟨Ds, rfl, h2, h3⟩ := h
  have key : ∀ (Ds : List Nat) (w1 : World), Ds.Nodup → (∀ D ∈ Ds, w1.heap[D]? = some (.deferred (some []))) → (∀ D ∈ Ds, lo ≤ D ∧ ¬ O D) → Keeps (fun k => lo ≤ k ∧ ¬ O k) w w1 → LeavesInM F n P fn tmps R (Ds.map mkD) .returning w1 := by
    intro Ds
    induction Ds with
    | nil => exact fun w1 _ _ _ hk => hR w1 hk
    | cons D Ds ih =>
      intro w1 hnd h1 h2 hk
      refine ⟨by simp, .inl ⟨D, _, rfl, run_takeDeferred (h1 D (by simp)), ih _ (List.nodup_cons.1 hnd).2 (fun E hE => ?_) (fun E hE => h2 E (List.mem_cons_of_mem _ hE)) (hk.put (l := D) (h2 D (by simp)) _)⟩⟩
      have hne : E ≠ D := by
        rintro rfl
        exact (List.nodup_cons.1 hnd).1 hE
      first
        | exact (World.putObj_heap_other hne).trans (h1 E (List.mem_cons_of_mem _ hE))
        | exact (World.putObj_heap_other hne.symm).trans (h1 E (List.mem_cons_of_mem _ hE))
  exact key Ds w h2 (fun D hD => (h3 D hD).1) (fun D hD => (h3 D hD).2) (Keeps.refl _ _)

/-- The attackers of the first kinds. -/
def atU (Z : List Int) (t b k : Nat) : List Nat := (List.range k).flatMap fun k => (rch Z (-(pc b (k + 1))) t).filter fun q => zg Z q == pc b (k + 1)
theorem atU_zero (Z : List Int) (t b : Nat) : atU Z t b 0 = [] := rfl
theorem atU_all (Z : List Int) (t b : Nat) : atU Z t b 6 = atk Z t b := rfl
theorem atU_succ (Z : List Int) (t b k : Nat) : atU Z t b (k + 1) = atU Z t b k ++ (rch Z (-(pc b (k + 1))) t).filter (fun q => zg Z q == pc b (k + 1)) := by
  unfold atU
  rw [List.range_succ, List.flatMap_append]; simp
theorem atU_pre (Z : List Int) (t b : Nat) {m n : Nat} (h : m ≤ n) : atU Z t b m <+: atU Z t b n := by
  induction n with
  | zero => obtain rfl : m = 0 := by omega
            exact List.prefix_refl _
  | succ n ih =>
    by_cases e : m = n + 1
    · subst e; exact List.prefix_refl _
    · refine (ih (by omega)).trans ?_
      rw [atU_succ]; exact List.prefix_append _ _

structure AkR (bb ab eb lb b t : Nat) (a : Option Addr) (c : Nat) (Z : List Int) (W : World) : Prop where
  b : W.cell? ⟨bb, 0, none⟩ = some (.int .i64 b)
  t : W.cell? ⟨ab, 0, none⟩ = some (.int .i64 t)
  e : W.cell? ⟨eb, 0, none⟩ = some (.func (.func 136) #[] #[.pointer (some ⟨lb, 0, none⟩)])
  l : W.cell? ⟨lb, 0, none⟩ = some (.slice a 64 c)
  z : Rd W a 64 c Z
  s : TabS W

def AkT (bb ab eb lb : Nat) (a : Option Addr) (k : Nat) : Prop := k = 1 ∨ k = bb ∨ k = ab ∨ k = eb ∨ k = lb ∨ ∃ off, a = some ⟨k, off, none⟩

theorem AkR.keeps {bb ab eb lb b t : Nat} {a : Option Addr} {c : Nat} {Z : List Int} {X : Nat → Prop} {W W' : World} (h : AkR bb ab eb lb b t a c Z W) (hk : Keeps X W W') (hX : ∀ k, AkT bb ab eb lb a k → ¬ X k) : AkR bb ab eb lb b t a c Z W' :=
  ⟨hk.cell h.b (hX bb (by unfold AkT; simp)), hk.cell h.t (hX ab (by unfold AkT; simp)), hk.cell h.e (hX eb (by unfold AkT; simp)), hk.cell h.l (hX lb (by unfold AkT; simp)),
    h.z.keeps hk (fun b off e => hX b (by unfold AkT; simp [e])), h.s.keeps hk (hX 1 (by unfold AkT; simp))⟩

theorem AkR.lt {bb ab eb lb b t : Nat} {a : Option Addr} {c : Nat} {Z : List Int} {W : World} (h : AkR bb ab eb lb b t a c Z W) : ∀ k, AkT bb ab eb lb a k → k < W.heap.size := by
  rintro k (rfl | rfl | rfl | rfl | rfl | ⟨off, rfl⟩)
  · exact h.s.lt
  · exact World.block_lt_of_cell? W _ h.b
  · exact World.block_lt_of_cell? W _ h.t
  · exact World.block_lt_of_cell? W _ h.e
  · exact World.block_lt_of_cell? W _ h.l
  · exact h.z.blt (by omega)

theorem reach_any (x : Int) (t lb : Nat) (w : World) : Calls Tryz.prog 87 #[.int .i64 x, .int .i64 t, .func (.func 136) #[] #[.pointer (some ⟨lb, 0, none⟩)]] w fun e w' => e = .returned (.func (.func 111) #[] #[.pointer (some ⟨w.heap.size, 0, none⟩), .pointer (some ⟨w.heap.size + 1, 0, none⟩), .pointer (some ⟨w.heap.size + 2, 0, none⟩)]) ∧ w' = ((w.alloc (.cells #[.int .i64 x] 3)).alloc (.cells #[.int .i64 t] 3)).alloc (.cells #[.func (.func 136) #[] #[.pointer (some ⟨lb, 0, none⟩)]] 73) := by
  go_enter Tryz.func87, Tryz.ntmps87
  go_wp2
  go_ret
  exact ⟨rfl, rfl⟩

/-- What reach has captured, behind its call. -/
theorem RcR.new {lb : Nat} (x : Int) (t : Nat) {a : Option Addr} {c : Nat} {Z : List Int} {w : World} (hl : w.cell? ⟨lb, 0, none⟩ = some (.slice a 64 c)) (hz : Rd w a 64 c Z) (hs : TabS w) :
    RcR w.heap.size (w.heap.size + 1) (w.heap.size + 2) lb x t a c Z (((w.alloc (.cells #[.int .i64 x] 3)).alloc (.cells #[.int .i64 t] 3)).alloc (.cells #[.func (.func 136) #[] #[.pointer (some ⟨lb, 0, none⟩)]] 73)) := by
  have B := (((Below.refl w.heap.size w).alloc (Nat.le_refl _) (.cells #[.int .i64 x] 3)).alloc (by simp) (.cells #[.int .i64 t] 3)).alloc (by simp; omega) (.cells #[.func (.func 136) #[] #[.pointer (some ⟨lb, 0, none⟩)]] 73)
  refine ⟨old_cell _ (old_cell _ (new_cell w _ 3)), old_cell _ ?_, ?_, (B.cell (p := ⟨lb, 0, none⟩) (World.block_lt_of_cell? w _ hl)).trans hl, hz.mono B, hs.mono B⟩
  · have := new_cell (w.alloc (.cells #[.int .i64 x] 3)) (.int .i64 t) 3
    rwa [World.size_alloc] at this
  · have := new_cell ((w.alloc (.cells #[.int .i64 x] 3)).alloc (.cells #[.int .i64 t] 3)) (.func (.func 136) #[] #[.pointer (some ⟨lb, 0, none⟩)]) 73
    rwa [World.size_alloc, World.size_alloc] at this

theorem attackers_any (a : Option Addr) (c t b : Nat) (w : World) : Calls Tryz.prog 105 #[.slice a 64 c, .int .i64 t, .int .i64 b] w fun e w' => e = .returned (.func (.func 137) #[] #[.pointer (some ⟨w.heap.size + 2, 0, none⟩), .pointer (some ⟨w.heap.size + 1, 0, none⟩), .pointer (some ⟨w.heap.size + 3, 0, none⟩), .pointer (some ⟨w.heap.size, 0, none⟩)]) ∧ w' = (((w.alloc (.cells #[.slice a 64 c] 22)).alloc (.cells #[.int .i64 t] 3)).alloc (.cells #[.int .i64 b] 3)).alloc (.cells #[.func (.func 136) #[] #[.pointer (some ⟨w.heap.size, 0, none⟩)]] 73) := by
  obtain ⟨W1, hW1⟩ : ∃ W1, ((w.alloc (.cells #[.slice a 64 c] 22)).alloc (.cells #[.int .i64 t] 3)).alloc (.cells #[.int .i64 b] 3) = W1 := ⟨_, rfl⟩
  have hs : W1.heap.size = w.heap.size + 3 := by rw [← hW1]; simp
  rw [hW1, ← hs]
  have HS := hide hs
  go_enter Tryz.func105, Tryz.ntmps105
  go_upto_region 1 with fail
  clear hs hW1
  go_wp2
  go_ret
  exact ⟨rfl, rfl⟩

theorem AkR.new (t b : Nat) {a : Option Addr} {c : Nat} {Z : List Int} {w : World} (hz : Rd w a 64 c Z) (hs : TabS w) :
    AkR (w.heap.size + 2) (w.heap.size + 1) (w.heap.size + 3) w.heap.size b t a c Z ((((w.alloc (.cells #[.slice a 64 c] 22)).alloc (.cells #[.int .i64 t] 3)).alloc (.cells #[.int .i64 b] 3)).alloc (.cells #[.func (.func 136) #[] #[.pointer (some ⟨w.heap.size, 0, none⟩)]] 73)) := by
  have B := ((((Below.refl w.heap.size w).alloc (Nat.le_refl _) (.cells #[.slice a 64 c] 22)).alloc (by simp) (.cells #[.int .i64 t] 3)).alloc (by simp; omega) (.cells #[.int .i64 b] 3)).alloc (by simp; omega) (.cells #[.func (.func 136) #[] #[.pointer (some ⟨w.heap.size, 0, none⟩)]] 73)
  refine ⟨old_cell _ ?_, old_cell _ (old_cell _ ?_), ?_, old_cell _ (old_cell _ (old_cell _ (new_cell w _ 22))), hz.mono B, hs.mono B⟩
  · have := new_cell ((w.alloc (.cells #[.slice a 64 c] 22)).alloc (.cells #[.int .i64 t] 3)) (.int .i64 b) 3
    rwa [World.size_alloc, World.size_alloc] at this
  · have := new_cell (w.alloc (.cells #[.slice a 64 c] 22)) (.int .i64 t) 3
    rwa [World.size_alloc] at this
  · have := new_cell (((w.alloc (.cells #[.slice a 64 c] 22)).alloc (.cells #[.int .i64 t] 3)).alloc (.cells #[.int .i64 b] 3)) (.func (.func 136) #[] #[.pointer (some ⟨w.heap.size, 0, none⟩)]) 73
    rwa [World.size_alloc, World.size_alloc, World.size_alloc] at this

end Go.Proofs.YtdmlamnonbmboaaGreatDoor
