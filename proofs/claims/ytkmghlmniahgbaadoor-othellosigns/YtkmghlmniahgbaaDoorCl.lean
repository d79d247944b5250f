/-
  The numbers of a set's places, collected into a list. No conditions beyond those that each theorem bears.
-/
import Derived.Test.YtkmghlmniahgbaaDoorCt
import Derived.Test.YtkmghlmniahgbaaDoorSp
namespace Go.Proofs.YtkmghlmniahgbaaDoor
open Go.RowKit Go.Shelf

/-- A set's places, as numbers. -/
def nms (Wd : Nat) (L : List Nat) : List Int := L.map fun i => ((num Wd i : Nat) : Int)
theorem nms_len (Wd : Nat) (L : List Nat) : (nms Wd L).length = L.length := by simp [nms]
theorem nms_snoc (Wd : Nat) (L : List Nat) (i : Nat) : nms Wd (L ++ [i]) = nms Wd L ++ [((num Wd i : Nat) : Int)] := by simp [nms]

theorem cell_one_new' (W : World) (v : Value) (t : TypeId) : ∀ j u, [v][j]? = some u → (W.alloc (.cells #[v] t)).cell? ((⟨W.heap.size, 0, none⟩ : Addr).add j) = some u := by
  intro j u hu
  match j, hu with
  | 0, hu => rw [Addr.add_lit, ← hu]; exact new_cell W v t
  | j + 1, hu => simp at hu

attribute [local irreducible] bln num nms
attribute [local go_sem] Oper.semAt_some wide_fn wide_fn0 wide_depth

set_option maxRecDepth 100000 in
set_option maxHeartbeats 4000000 in
theorem appendSeq_any (bp bw M Wd : Nat) (hM : M < 2 ^ 64) (hWd : Wd ≤ 10) (w : World) (hR : NuR bp bw M Wd w) :
    Calls Tryd.prog 47 #[.slice none 0 0, .func (.func 49) #[] #[.pointer (some ⟨bp, 0, none⟩), .pointer (some ⟨bw, 0, none⟩)]] w fun e w' => ∃ a c, e = .returned (.slice a (bln M 64).length c) ∧ w'.ownsRow w.heap.size 3 1 (.slice a (bln M 64).length c) (bln M 64).length ((nms Wd (bln M 64)).map (Value.int .i64)) ∧ Below w.heap.size w w' := by
  obtain ⟨i0, hi, hz0, hz1, hz2⟩ := info_parts Tryd.info3
  have HI := hide hi
  have HI0 := hide hz0
  have HI1 := hide hz1
  have HI2 := hide hz2
  have HLT := hide hR.lt
  have HR := hide hR
  have HSQ := hide (numbers1_seq bp bw M Wd hM hWd)
  have HLN := hide (bln_len M 64)
  clear hM hR hi hz0 hz1 hz2
  refine (callsIn_wide (n := 3)).1 ?_
  refine callsIn_of_wp_marks Tryd.func47 rfl trivial ?_ rfl
  simp only [Tryd.ntmps47, List.size_toArray, List.length_cons, List.length_nil, Nat.reduceAdd, Nat.reduceSub, Array.replicate_succ, Array.replicate_zero, List.push_toArray, List.append_toArray, List.nil_append, List.cons_append]
  refine wpIn_wide.2 ?_
  go_upto_region 1 with fail
  obtain ⟨w1, hw1⟩ : ∃ w1, w.alloc (.cells #[.slice none 0 0] 22) = w1 := ⟨_, rfl⟩
  have B1 : Below w.heap.size w w1 := by rw [← hw1]; exact (Below.refl _ w).alloc (Nat.le_refl _) _
  have s1 : w1.heap.size = w.heap.size + 1 := by rw [← hw1]; simp
  have c1 : w1.cell? ⟨w.heap.size, 0, none⟩ = some (.slice none 0 0) := by rw [← hw1]; exact new_cell w _ 22
  have f1 : w1.frozen? ⟨w.heap.size, 0, none⟩ = false := by
    have h1 : w1.heap[w.heap.size]? = some (.cells #[.slice none 0 0] 22 (0, 0)) := by rw [← hw1]; exact heap_alloc_new w _
    simp [World.frozen?, h1]
  have R1 : NuR bp bw M Wd w1 := HR.out.keeps (X := fun _ => False) (Keeps.of_all B1) (fun _ e => e.elim)
  have HB1 := hide B1
  rw [hw1]
  clear hw1 B1 HR
  go_wp2_with fail
  refine (wpIn_wide (n := 1)).1 (wp_range_q (gf := 49) (lb := #[.pointer (some ⟨bp, 0, none⟩), .pointer (some ⟨bw, 0, none⟩)]) (G := NuG Wd) (xs := bln M 64) (R := NuR bp bw M Wd) (T := NuT bp bw) (c := 4) (by simp [Act.eval]) (enters_of Tryd.func49 (by kernel_rfl) rfl)
    HSQ.out (fun k hk => by have := HLT.out k hk; omega) (fun A B hA hk => hA.keeps hk (fun k e => e)) R1 (fun k => k = w.heap.size ∨ w1.heap.size + 6 ≤ k) ?hX (fun x args W' hG => by rw [hG]; rfl)
    (fun pre W' => ∃ a c, W'.cell? ⟨w.heap.size, 0, none⟩ = some (.slice a pre.length c) ∧ W'.frozen? ⟨w.heap.size, 0, none⟩ = false ∧ W'.ownsRow (w1.heap.size + 6) 3 1 (.slice a pre.length c) pre.length ((nms Wd pre).map (Value.int .i64)) ∧ Keeps (fun k => k = w.heap.size) w1 W') (fun _ _ => False) ?hI (fun _ _ _ h _ => h) ⟨none, 0, c1, f1, ?h0, Keeps.refl _ _⟩ ?round ?done (fun _ _ _ _ h => h.elim))
  case hX =>
    intro k hk
    refine ⟨fun ht => by have := HLT.out k ht; omega, fun e => by omega⟩
  case h0 =>
    have : (nms Wd []).map (Value.int .i64) = [] := by rw [nms]; rfl
    rw [this]
    exact World.ownsRow_nil _ _ _ _
  case hI =>
    rintro s A B ⟨a, c, k1, k2, k3, k4⟩ hk
    have hlt : w.heap.size < A.heap.size := World.block_lt_of_cell? A _ k1
    exact ⟨a, c, hk.cell k1 (fun e => by dsimp only at e; omega), (hk.frozen (p := ⟨w.heap.size, 0, none⟩) hlt (fun e => by dsimp only at e; omega)).trans k2, own_blk k3 (fun g hg => hk.block g (k3.lt g hg).2 (fun e => by have := (k3.lt g hg).1; omega)), k4.after hk (fun i hi e => by omega)⟩
  case round =>
    rintro l2 pre x args W1 hl2 ⟨rec, hrec⟩ ⟨a, c, k1, k2, k3, k4⟩ hpre hG hsz
    obtain rfl : args = #[.int .i64 (num Wd x : Nat)] := hG
    have hpl : pre.length ≤ 64 := by
      have h1 := hpre.length_le
      rw [List.length_append, List.length_singleton] at h1
      have h2 := HLN.out
      omega
    have HSN : Hid ((nms Wd (pre ++ [x])).map (Value.int .i64) = (nms Wd pre).map (Value.int .i64) ++ [.int .i64 (num Wd x : Nat)]) := hide (by rw [nms_snoc]; simp)
    have HPL : Hid ((pre ++ [x]).length = pre.length + 1) := hide (by simp)
    obtain ⟨V, hV⟩ : ∃ V, num Wd x = V := ⟨_, rfl⟩
    rw [hV] at HSN ⊢
    obtain ⟨pl, hple⟩ : ∃ pl, pre.length = pl := ⟨_, rfl⟩
    rw [hple] at k1 k3 hpl HPL
    have HK1 := hide k1
    have HK2 := hide k2
    have HK3 := hide k3
    have HK4 := hide k4
    clear hV hpre k1 k2 k3 k4 hrec hple
    gi_wp2
    refine ⟨Keeps.refl _ _, ?_⟩
    intro W3 hk3
    have cs := hk3.cell HK1.out (by show ¬ w.heap.size = l2; omega)
    have fs := (hk3.frozen (p := ⟨w.heap.size, 0, none⟩) (World.block_lt_of_cell? W1 _ HK1.out) (by show ¬ w.heap.size = l2; omega)).trans HK2.out
    have hrow : W3.ownsRow (w1.heap.size + 6) 3 1 (.slice a pl c) pl ((nms Wd pre).map (Value.int .i64)) := own_blk HK3.out (fun g hg => hk3.block g (HK3.out.lt g hg).2 (fun e => by have := (HK3.out.lt g hg).1; omega))
    have HKK : Hid (Keeps (fun k => k = w.heap.size) w1 W3) := hide (HK4.out.after hk3 (fun i hi e => by omega))
    have hW3 : w1.heap.size + 6 ≤ W3.heap.size := by have := hk3.size; omega
    have csa := old_cell (.cells #[.int .i64 (V : Nat)] 3) cs
    have hrowa := hrow.alloc (.cells #[.int .i64 (V : Nat)] 3)
    have hi := HI.out
    have hz0 := HI0.out
    have hz1 := HI1.out
    have hz2 := HI2.out
    have HCS := hide cs
    have HFS := hide fs
    have HROW := hide hrow
    clear hk3 HK1 HK2 HK3 HK4 hrow fs
    gi_wp2_with (gi_at_builtin; refine wpListIn_append_own _ rfl _ _ 22 rfl (w1.heap.size + 6) 3 i0 (.int .i64 0) 1 8 Tryd.underlying22 hi hz0 hz1 hz2 rfl (by decide) _ pl _ rfl hrowa ⟨W3.heap.size, 0, none⟩ 1 1 [.int .i64 (V : Nat)] rfl rfl (cell_one_new' W3 _ 3) (by simp [Value.oneCell']) (by unfold maxLen; omega) (by omega) (by simp; omega) ?_)
    intro v' w4 hO4 hg4 _
    rw [← s1] at hO4
    obtain ⟨a4, c4, rfl⟩ := slice_form hO4
    have K34 : Keeps (fun k => k = w.heap.size ∨ w1.heap.size + 6 ≤ k) W3 w4 := by
      refine ((Keeps.refl _ W3).alloc (.cells #[.int .i64 (V : Nat)] 3)).trans ?_
      refine ⟨hg4.os, hg4.tape, hg4.output, hg4.size, fun i hi hx => hg4.block i hi (fun e => hx (Or.inr ?_))⟩
      exact (HROW.out.lt i e.symm).1
    have K34b : Keeps (fun k => k = w.heap.size) w1 w4 := HKK.out.after K34 (fun i hi e => by omega)
    have c4s := by
      have h1 : w4.heap[w.heap.size]? = W3.heap[w.heap.size]? := by
        have hb := World.block_lt_of_cell? W3 _ HCS.out
        have e1 := hg4.block w.heap.size (by simp; exact Nat.lt_succ_of_lt hb) (fun e => by have := (HROW.out.lt w.heap.size e.symm).1; omega)
        exact e1.trans (Below.heap_alloc W3 _ _ hb)
      exact (show w4.cell? ⟨w.heap.size, 0, none⟩ = some (.slice a pl c) ∧ w4.frozen? ⟨w.heap.size, 0, none⟩ = false from ⟨(World.cell?_of_block (w := W3) h1).trans HCS.out, (World.frozen?_of_block (w := W3) (a := ⟨w.heap.size, 0, none⟩) h1).trans HFS.out⟩)
    obtain ⟨cs4, fs4⟩ := c4s
    have HO5 : Hid ((w4.setCell ⟨w.heap.size, 0, none⟩ (.slice a4 (pl + 1) c4)).ownsRow (w1.heap.size + 6) 3 1 (.slice a4 (pl + 1) c4) (pl + 1) ((nms Wd pre).map (Value.int .i64) ++ [.int .i64 (V : Nat)])) := hide (own_blk hO4 (fun g hg => (Keeps.set1 w4 w.heap.size 0 _).block g (hO4.lt g hg).2 (fun e => by have := (hO4.lt g hg).1; omega)))
    have HK5 : Hid (Keeps (fun k => k = w.heap.size ∨ w1.heap.size + 6 ≤ k) W3 (w4.setCell ⟨w.heap.size, 0, none⟩ (.slice a4 (pl + 1) c4))) := hide (K34.setCell (X := fun k => k = w.heap.size ∨ w1.heap.size + 6 ≤ k) (Or.inl rfl) _)
    have HK6 : Hid (Keeps (fun k => k = w.heap.size) w1 (w4.setCell ⟨w.heap.size, 0, none⟩ (.slice a4 (pl + 1) c4))) := hide (K34b.setCell (X := fun k => k = w.heap.size) rfl _)
    have HC5 : Hid ((w4.setCell ⟨w.heap.size, 0, none⟩ (.slice a4 (pl + 1) c4)).cell? ⟨w.heap.size, 0, none⟩ = some (.slice a4 (pl + 1) c4)) := hide (World.cell?_setCell_same _ _ _ (by rw [cs4]))
    have HF5 : Hid ((w4.setCell ⟨w.heap.size, 0, none⟩ (.slice a4 (pl + 1) c4)).frozen? ⟨w.heap.size, 0, none⟩ = false) := hide (by rw [World.frozen?_setCell]; exact fs4)
    clear hO4 hg4 K34 K34b hrowa csa cs
    gi_wp2_with fail
    refine ⟨HK5.out, a4, c4, ?_, HF5.out, ?_, HK6.out⟩
    · rw [HPL.out]; exact HC5.out
    · rw [HPL.out, HSN.out]; exact HO5.out
  case done =>
    rintro D W5 hD ⟨a, c, k1, k2, k3, k4⟩ _ hK
    have HK3 := hide k3
    have HK4 := hide k4
    clear k2 k3 k4
    go_wp2
    refine ⟨by simp, .inl ⟨_, _, rfl, run_takeDeferred hK, ?_⟩⟩
    refine ⟨_, results_tmp rfl _ _ _, a, c, rfl, ?_, ?_⟩
    · refine own_base (own_blk HK3.out (fun g hg => World.putObj_heap_other (fun e => by have := (HK3.out.lt g hg).1; omega))) (by omega)
    · exact HB1.out.trans (((HK4.out.mono (Y := fun k => w.heap.size ≤ k) (fun k _ e => by omega)).put (l := D) (by omega) _).below HB1.out.size (fun k hk e => by omega))

set_option maxHeartbeats 1000000 in
theorem collect_any (bp bw M Wd : Nat) (hM : M < 2 ^ 64) (hWd : Wd ≤ 10) (w : World) (hR : NuR bp bw M Wd w) :
    Calls Tryd.prog 30 #[.func (.func 49) #[] #[.pointer (some ⟨bp, 0, none⟩), .pointer (some ⟨bw, 0, none⟩)]] w fun e w' => ∃ a c, e = .returned (.slice a (bln M 64).length c) ∧ w'.ownsRow w.heap.size 3 1 (.slice a (bln M 64).length c) (bln M 64).length ((nms Wd (bln M 64)).map (Value.int .i64)) ∧ Below w.heap.size w w' := by
  have HC := hide (appendSeq_any bp bw M Wd hM hWd w hR)
  clear hM hR
  go_enter Tryd.func30, Tryd.ntmps30
  go_wp2_with fail
  refine HC.out.mono ?_
  rintro e w1 ⟨a, c, rfl, hO, hb⟩
  have HO := hide hO
  have HB := hide hb
  clear hO hb
  go_wp2_with fail
  go_ret
  exact ⟨a, c, rfl, HO.out, HB.out⟩

end Go.Proofs.YtkmghlmniahgbaaDoor
