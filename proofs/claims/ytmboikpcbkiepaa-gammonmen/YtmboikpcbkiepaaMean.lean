/-
  How many throws a side needs in the mean. No conditions beyond those that each theorem bears.
-/
import Derived.Test.YtmboikpcbkiepaaMean1
import Derived.Laws.EntriesVeiled
namespace Go.Proofs.Ytmboikpcbkiepaa
open Go.RowKit Go.Maps

theorem load3 (w : World) (b : Nat) (v : Value) (h : w.cell? ⟨b, 0, none⟩ = some v) : (loadVar 3 ⟨b, 0, none⟩).run Try.prog w = .ok v w := by
  go_simp

theorem results_tc {fn : Func} {t u : Tmp} (h : fn.results = #[.tmp u, .cell t 3]) (tmps : Array Value) (w : World) (b : Nat) (hb : tmps.getD t undef = .pointer (some ⟨b, 0, none⟩)) (v : Value) (hr : w.cell? ⟨b, 0, none⟩ = some v) :
    (results fn tmps).run Try.prog w = .ok (.tuple #[tmps.getD u undef, v]) w := by
  have hl := load3 w b v hr
  have hb' : tmps[t]?.getD undef = .pointer (some ⟨b, 0, none⟩) := by simpa using hb
  have ha : (asAddr (.pointer (some ⟨b, 0, none⟩))).run Try.prog w = .ok ⟨b, 0, none⟩ w := rfl
  simp [results, h, hb', ha, hl, Sem.run_bind, Result.andThen]

theorem frozen_of_block {w : World} {b t : Nat} {v : Value} (h : w.heap[b]? = some (.cells #[v] t (0, 0))) : w.frozen? ⟨b, 0, none⟩ = false := by
  simp [World.frozen?, h]

theorem cell_of_block {w : World} {b t : Nat} {v : Value} (h : w.heap[b]? = some (.cells #[v] t (0, 0))) : w.cell? ⟨b, 0, none⟩ = some v := by
  simp [World.cell?, h]

theorem setCell_other (w : World) (b i : Nat) (x : Value) (k : Nat) (h : k ≠ b) : (w.setCell ⟨b, i, none⟩ x).heap[k]? = w.heap[k]? := by
  simp only [World.setCell, Array.getElem?_modify]
  rw [if_neg (fun e => h e.symm)]

/-- The cell of one throw is written anew, with what it held. -/
theorem Hd.put {w W : World} {k f o g sb : Nat} {s : List Int} (h : Hd w k f o g sb s W) (q : Nat) (hq : q < w.heap.size) (hqg : q ≠ g) {v : Value} {t : Nat} (hv : w.heap[q]? = some (.cells #[v] t (0, 0))) : Hd w k f o g sb s (W.setCell ⟨q, 0, none⟩ v) := by
  have hb : W.heap[q]? = some (.cells #[v] t (0, 0)) := (h.kp.block q hq hqg).trans hv
  have he : ∀ i : Nat, (W.setCell ⟨q, 0, none⟩ v).heap[i]? = W.heap[i]? := by
    intro i
    by_cases e : i = q
    · subst e
      rw [hb]
      obtain ⟨h1, h2⟩ := Array.getElem?_eq_some_iff.1 hb
      simp [World.setCell, Array.getElem?_modify, hb]
    · exact setCell_other W q 0 v i e
  have hk : Keeps (fun i => i = g) W (W.setCell ⟨q, 0, none⟩ v) := ⟨rfl, rfl, rfl, by simp [World.setCell], fun i _ _ => he i⟩
  have hk0 : Keeps (fun _ => False) W (W.setCell ⟨q, 0, none⟩ v) := ⟨rfl, rfl, rfl, by simp [World.setCell], fun i _ _ => he i⟩
  exact ⟨h.env.kept hk0 id id id id, h.blk.keeps hk0 id, h.kp.trans hk⟩

theorem one9_pow : 36 ^ 9 = one9 := by decide

attribute [local irreducible] vl lst sd6 endsL sumS rowS one9 endsX

set_option maxRecDepth 100000 in
set_option maxHeartbeats 2000000 in
theorem mean_any (m : List Nat) (hm : m ∈ Ms) (w : World) :
    Calls Try.prog 47 #[sv (sd6 m)] w fun e w' => e = .returned (.tuple #[tv m, .int .i64 (one9 : Nat)]) ∧ Below w.heap.size w w' := by
  have hmm := @run_makeMap Try.prog
  obtain ⟨s, hs⟩ : ∃ s, sd6 m = s := ⟨_, rfl⟩
  have hG := Ms_gd hm
  have HC := hide (fun k f o g W hE => mean1_any k f o g (pip m + 1) m hm (Nat.lt_succ_self _) W hE)
  rw [hs] at hG HC ⊢
  have hl52 := hide hG.len
  clear hG hm hs
  go_enter Try.func47, Try.ntmps47
  go_wp2_with fail
  go_loopw [6] (fun v wr => ∃ i V : Nat, v = .int .i64 i ∧ i ≤ 9 ∧ Hid (V = 36 ^ i) ∧ Hid (wr = (w.alloc (Obj.cells (ivs s).toArray 54)).alloc (Obj.cells #[Value.int IntKind.i64 (V : Nat)] 3))) (fun v _ => 9 - (intOf v).toNat)
  case atStart => exact ⟨0, 1, rfl, by omega, hide rfl, hide rfl⟩
  case round =>
    obtain ⟨i, V, rfl, hi, hV, hwr⟩ := hrel
    by_cases hi9 : i < 9
    · have hi' : (i : Int) < 9 := by omega
      have hVb : V ≤ 2821109907456 := by
        have := Nat.pow_le_pow_right (show 0 < 36 by omega) (show i ≤ 8 by omega)
        rw [hV.out]
        exact Nat.le_trans this (by decide)
      have hwe := hwr.out
      subst hwe
      have HV2 : Hid (V * 36 = 36 ^ (i + 1)) := hide (by rw [hV.out, Nat.pow_succ])
      clear hwr hV
      go_wp2_with fail
      exact ⟨⟨i + 1, V * 36, by congr 1, by omega, HV2, hide (by rw [Int.natCast_mul]; rfl)⟩, by simp [intOf]; omega⟩
    · have hi' : ¬ (i : Int) < 9 := by omega
      have hVe : V = one9 := by rw [hV.out, show i = 9 by omega]; exact one9_pow
      subst hVe
      have hwe := hwr.out
      have hz : wr.heap.size = w.heap.size + 1 + 1 := by rw [hwe]; simp
      have hB0 : Below w.heap.size w wr := by
        rw [hwe]
        exact ((Below.refl _ w).alloc (Nat.le_refl _) _).alloc (by simp) _
      have hK0 : Blk wr w.heap.size 54 s := by
        rw [hwe]
        exact (Blk.new w 54 s _ rfl).old _
      have hO0 : wr.heap[w.heap.size + 1]? = some (.cells #[.int .i64 (one9 : Nat)] 3 (0, 0)) := by
        rw [hwe]
        have := heap_alloc_new (w.alloc (Obj.cells (ivs s).toArray 54)) (Obj.cells #[Value.int IntKind.i64 (one9 : Nat)] 3)
        rw [World.size_alloc] at this
        exact this
      have HB0 := hide hB0
      have HK0 := hide hK0
      have HO0 := hide hO0
      have HZ := hide hz
      clear hwe hwr hV hB0 hK0 hO0 hz
      go_upto_region 9 with fail
      obtain ⟨w5, hw5⟩ : ∃ w5, w5 = (((wr.alloc (Obj.map #[] 0)).alloc (Obj.cells #[Value.map (some wr.heap.size)] 86)).alloc (Obj.cells #[fv (wr.heap.size + 1) (wr.heap.size + 1 + 1) (w.heap.size + 1)] 87)) := ⟨_, rfl⟩
      rw [← hw5]
      have hz := HZ.out
      have hB5' : Below wr.heap.size wr w5 := by
        rw [hw5]
        exact (((Below.refl _ wr).alloc (Nat.le_refl _) _).alloc (by simp) _).alloc (by simp; omega) _
      have hB5 := hide (HB0.out.trans (hB5'.mono HB0.out.size))
      have hK5 := HK0.out.below hB5' HK0.out.lt
      have hO5 := (hB5'.block (w.heap.size + 1) (by omega)).trans HO0.out
      have hz5 : w5.heap.size = wr.heap.size + 1 + 1 + 1 := by rw [hw5]; simp
      have hM5 : Mp w5 wr.heap.size := by
        have h1 := Mp.made wr
        rw [hw5]
        exact h1.keeps (Keeps.of_below (((Below.refl (wr.alloc (Obj.map #[] 0)).heap.size _).alloc (Nat.le_refl _) _).alloc (by simp) _)) (by simp)
      have E5 : Env w5 (wr.heap.size + 1) (wr.heap.size + 1 + 1) (w.heap.size + 1) wr.heap.size := by
        refine ⟨?_, ?_, cell_of_block hO5, hM5⟩
        · rw [hw5]; go_simp
        · rw [hw5]; go_simp
      have hsg : w.heap.size ≠ wr.heap.size := by omega
      have hog : w.heap.size + 1 ≠ wr.heap.size := by omega
      have HOL : Hid (w.heap.size + 1 < w5.heap.size) := hide (by omega)
      have HO5 := hide hO5
      have H5 : Hid (Hd w5 (wr.heap.size + 1) (wr.heap.size + 1 + 1) (w.heap.size + 1) wr.heap.size w.heap.size s w5) := hide ⟨E5, hK5, Keeps.refl _ _⟩
      have HC5 := hide (HC.out (wr.heap.size + 1) (wr.heap.size + 1 + 1) (w.heap.size + 1) wr.heap.size)
      have hgl : wr.heap.size < w5.heap.size := by omega
      have HLG : Hid (w.heap.size ≤ wr.heap.size) := hide (by omega)
      clear hw5 hB5' hK5 hO5 hM5 E5 HB0 HK0 HO0 HZ hz HC hz5 hmm
      generalize wr.heap.size + 1 + 1 = f at *
      generalize wr.heap.size + 1 = k at *
      generalize wr.heap.size = g at *
      generalize w.heap.size + 1 = o at *
      obtain ⟨sb, hsb⟩ : ∃ sb, w.heap.size = sb := ⟨_, rfl⟩
      rw [hsb] at H5 hsg ⊢
      have HSB := hide hsb
      clear hsb
      have SW : Hd w5 k f o g sb s (World.drew _) := H5.out.drew
      refine wp_region_held (S := fun W => Hd w5 k f o g sb s W) (by kernel_rfl) ?_
      change wpAnyH _ _ _ _ _ _ _ _ (World.drew _)
      refine wpAnyH_take (i := 0) (v := fv k f o) rfl (by kernel_rfl) (by kernel_rfl) (by kernel_rfl) (fun _ _ _ h => h) (Or.inl ⟨by rfl, ?_⟩) SW ?_
      · intro W hW
        have hcell := hW.env.self
        go_simp <;> first | done | rfl
      go_simp
      refine wpAnyH_take (i := 1) (v := .agg (ivs s).toArray) rfl (by kernel_rfl) (by kernel_rfl) (by kernel_rfl) (fun _ _ _ h => h) (yieldsIf_load_mid (by rfl) 54 _ rfl sb 0 (by rfl) (ivs s) _ (fun W hW => hW.blk.range) Try.underlying54 rfl (by rw [ivs_length, hl52.out]; exact size54)) SW ?_
      go_simp
      refine wpAnyH_take (i := 3) (v := .int .i64 (one9 : Nat)) rfl (by kernel_rfl) (by kernel_rfl) (by kernel_rfl) (fun _ _ _ h => h) (Or.inl ⟨by rfl, ?_⟩) SW ?_
      · intro W hW
        have hcell := hW.env.one
        go_simp <;> first | done | rfl
      go_simp
      refine wpAnyH_ready (rs := [2]) (by kernel_rfl) (by simp) ?_
      refine AllReadyH.cons rfl (fun K1 hK1 => ?_) AllReadyH.nil
      go_simp
      refine (HC5.out _ SW.env).mono ?_
      rintro e w6 ⟨rfl, hE6, hk6⟩
      refine hK1.out _ _ (SW.keeps hE6 hk6 hsg) (fun SW => ?_)
      clear hK1 K1
      go_simp
      refine wpAnyH_take (i := 4) (v := tv m) rfl (by kernel_rfl) (by kernel_rfl) (by kernel_rfl) (fun _ _ _ h => h) (Or.inl ⟨by rfl, ?_⟩) SW ?_
      · intro W _
        go_simp <;> first | done | rfl | (rw [IntKind.wrap_i64]; omega) | (intro hh; exfalso; omega)
      go_simp
      have hc6 := SW.env.one
      have hf6 : World.frozen? _ ⟨o, 0, none⟩ = false := frozen_of_block ((SW.kp.block o HOL.out (fun e => hog e)).trans HO5.out)
      have SW2 := SW.put o HOL.out hog HO5.out
      refine wpAnyH_ready (rs := [5]) (by kernel_rfl) (by simp) ?_
      refine AllReadyH.cons rfl (fun K1 hK1 => ?_) AllReadyH.nil
      go_simp
      refine hK1.out _ _ SW2 (fun SW => ?_)
      clear hK1 K1
      go_simp
      refine wpAnyH_done (by kernel_rfl) ?_ _
      have HF := hide SW
      clear SW
      go_wp2_with fail
      refine bodyPost_ret (results_tc rfl _ _ o rfl _ HF.out.env.one) rfl ⟨rfl, ?_⟩
      exact hB5.out.trans (HF.out.kp.below hB5.out.size (fun i hi e => by have := HLG.out; omega))

end Go.Proofs.Ytmboikpcbkiepaa
