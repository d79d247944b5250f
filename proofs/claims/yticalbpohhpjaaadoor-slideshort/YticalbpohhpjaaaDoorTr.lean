/-
  A tray of its own made of a board; where a stone is at home, how far away it is; pairs the wrong way round. No conditions beyond those that each theorem bears.
-/
import Derived.Test.YticalbpohhpjaaaDoorMa
namespace Go.Proofs.YticalbpohhpjaaaDoor
open Go.RowKit

theorem results_ty {fn : Func} {t : Tmp} (h : fn.results = #[.cell t 55]) (tmps : Array Value) (w : World) (b : Nat) (hb : tmps.getD t undef = .pointer (some ⟨b, 0, none⟩)) {W H : Int} {ad : Option Addr} {n c : Nat} {g : Int} (hr : Ty w b W H ad n c g) :
    (results fn tmps).run Tryd.prog w = .ok (.agg (trA W H ad n c g)) w :=
  results_cell_row h tmps w b 55 _ (0, 0) _ hb hr Tryd.underlying55 rfl size55

theorem wpList_load_ty {ops : Array Oper} {rest : List Oper} {op : Oper} {a : Act} {w : World} {Q : Exit → Act → World → Prop} (hw : Region.wanted op (yielded ops a.tmps) = true) (x : Operand) (ho : op.op = .load 55 x)
    (b : Nat) (hx : a.eval x = .pointer (some ⟨b, 0, none⟩)) {W H : Int} {ad : Option Addr} {n c : Nat} {g : Int} (hc : Ty w b W H ad n c g)
    (h : wpList Tryd.prog ops Q rest (a.put op.dst (.agg (trA W H ad n c g))) w) : wpList Tryd.prog ops Q (op :: rest) a w :=
  wpList_wanted hw fun _ hK => wp_load_row 55 x ho b hx 55 _ (0, 0) _ hc Tryd.underlying55 rfl size55 (hK _ _ h)

theorem wp_store_ty {o : Oper} {a : Act} {w : World} {K : Act → World → Prop} {Q : Exit → Act → World → Prop} (x y : Operand) (ho : o.op = .store 55 x y)
    (b : Nat) {W H : Int} {ad : Option Addr} {n c : Nat} {g : Int} {W' H' : Int} {ad' : Option Addr} {n' c' : Nat} {g' : Int} (hx : a.eval x = .pointer (some ⟨b, 0, none⟩)) (hy : a.eval y = .agg (trA W H ad n c g)) (hb : Ty w b W' H' ad' n' c' g')
    (h : ∀ w', Ty w' b W H ad n c g → Keeps (fun k => k = b) w w' → K (a.put o.dst undef) w') : o.wp Tryd.prog a w K Q := by
  have hb' : w.heap[b]? = _ := hb
  refine wp_store_row 55 x y ho b (trA W H ad n c g) hx hy 55 _ hb' size55 rfl (by simp [Value.oneCell']) ?_
  refine h _ ?_ ?_
  · simp [Ty, World.setRow, Array.getElem?_modify, hb']
  · exact ⟨rfl, rfl, rfl, by simp [World.setRow], fun k _ hk => by simp [World.setRow, Array.getElem?_modify, show ¬ b = k from fun e => hk e.symm]⟩

theorem wpList_store_ty {ops : Array Oper} {rest : List Oper} {o : Oper} {a : Act} {w : World} {Q : Exit → Act → World → Prop} (hgd : o.guard = none) (x y : Operand) (ho : o.op = .store 55 x y)
    (b : Nat) {W H : Int} {ad : Option Addr} {n c : Nat} {g : Int} {W' H' : Int} {ad' : Option Addr} {n' c' : Nat} {g' : Int} (hx : a.eval x = .pointer (some ⟨b, 0, none⟩)) (hy : a.eval y = .agg (trA W H ad n c g)) (hb : Ty w b W' H' ad' n' c' g')
    (h : ∀ w', Ty w' b W H ad n c g → Keeps (fun k => k = b) w w' → wpList Tryd.prog ops Q rest (a.put o.dst undef) w') : wpList Tryd.prog ops Q (o :: rest) a w :=
  wpList_plain hgd fun _ hK => wp_store_ty x y ho b hx hy hb fun w' h1 h2 => hK _ _ (h w' h1 h2)

/-- Where what is at a place is at home. -/
def hom (zs : List Int) (n p : Nat) : Nat := ((zs.getD p 0).toNat + n - 1) % n

/-- How far apart two places are. -/
def dst (W p q : Nat) : Nat := (((p % W : Nat) : Int) - (q % W : Nat)).natAbs + (((p / W : Nat) : Int) - (q / W : Nat)).natAbs

set_option maxHeartbeats 4000000 in
theorem trayOf_any (W H : Int) (a : Option Addr) (n c : Nat) (zs : List Int) (g : Nat) (w : World) (h : Rd w a n c zs) (hn : 0 < n ∧ n ≤ 25) (hg : ix zs 0 = g) :
    Calls Tryd.prog 29 #[.agg (gdA W H a n c)] w fun e w' => ∃ cb c', e = .returned (.agg (trA W H (some ⟨cb, 0, none⟩) n c' g)) ∧ Bw w' cb n c' zs ∧ w.heap.size ≤ cb ∧ Below w.heap.size w w' := by
  obtain ⟨bb, off, rfl, hcs⟩ := h.cells hn.1
  have hlen := h.len
  go_enter Tryd.func29, Tryd.ntmps29
  go_upto_region 1 with fail
  obtain ⟨w1, hw1⟩ : ∃ w1, (w.alloc (Obj.cells (gdA W H (some ⟨bb, off, none⟩) n c) 24)).alloc (Obj.cells (trA 0 0 none 0 0 0) 55) = w1 := ⟨_, rfl⟩
  rw [hw1]
  have K1 : Gd w1 w.heap.size W H (some ⟨bb, off, none⟩) n c := by rw [← hw1]; exact (Gd.new w W H _ n c).old _
  have K2 : Ty w1 (w.heap.size + 1) 0 0 none 0 0 0 := by
    rw [← hw1]
    have := Ty.new (w.alloc (Obj.cells (gdA W H (some ⟨bb, off, none⟩) n c) 24)) 0 0 none 0 0 0
    rw [World.size_alloc] at this
    exact this
  have hs1 : w1.heap.size = w.heap.size + 1 + 1 := by rw [← hw1]; simp
  have B1 : Below w.heap.size w w1 := by rw [← hw1]; exact ((Below.refl _ w).alloc (Nat.le_refl _) _).alloc (by simp) _
  have hc1 : ∀ j, j < zs.length → w1.cell? ⟨bb, off + j, none⟩ = some (.int .i64 (zs.getD j 0)) := fun j hj => (B1.cell (p := ⟨bb, off + j, none⟩) (World.block_lt_of_cell? w _ (hcs j (by omega)))).trans (hcs j (by omega))
  clear hw1
  have HS := hide hs1
  have CALL := hide (Tryd.slices_Clone_int bb off n c zs w1 (by omega) (by omega) hc1)
  rw [hs1, List.take_of_length_le (by omega)] at CALL
  clear hs1 hcs hc1 h
  obtain ⟨-, -, g0⟩ := K1.cells
  go_wp2_with fail
  refine CALL.out.mono ?_
  rintro e w2 ⟨v', rfl, hO, -, hb⟩
  have hex : ∃ cb c', v' = .slice (some ⟨cb, 0, none⟩) n c' ∧ w.heap.size + 1 + 1 ≤ cb ∧ cb < w2.heap.size := by
    rcases hO.2 with ⟨hv, h0⟩ | ⟨g, cap, cur, hv, hgb, hgg, _⟩
    · omega
    · exact ⟨g, cap, hv, hgb, (Array.getElem?_eq_some_iff.1 hgg).1⟩
  obtain ⟨cb, c', rfl, hcb, hcb2⟩ := hex
  have K12 := K1.below (C := w.heap.size + 1 + 1) hb (by omega)
  have K22 := K2.below (C := w.heap.size + 1 + 1) hb (by omega)
  have B2 := B1.trans (hb.mono (by omega))
  clear K1 K2 B1 g0 CALL hb
  obtain ⟨-, -, g0⟩ := K12.cells
  have f0 := K12.frozen 2
  have HO : Hid (Bw w2 cb n c' zs) := hide (own_base hO (Nat.zero_le _))
  clear hO
  go_upto_region 2 with fail
  have K13 := K12.setP (some ⟨cb, 0, none⟩) n c'
  have KK := Keeps.set1 w2 w.heap.size 2 (.slice (some ⟨cb, 0, none⟩) n c')
  have K23 := K22.keeps KK (show w.heap.size + 1 ≠ w.heap.size by omega)
  have B3 := hide (B2.setCell (p := ⟨w.heap.size, 2, none⟩) (Nat.le_refl _) (.slice (some ⟨cb, 0, none⟩) n c'))
  have O3 := hide (HO.out.keeps KK (by omega))
  have hcb3 : cb < (w2.setCell ⟨w.heap.size, 2, none⟩ (.slice (some ⟨cb, 0, none⟩) n c')).heap.size := by simpa [World.setCell] using hcb2
  clear K12 K22 B2 g0 f0 HO KK hcb2
  generalize w2.setCell ⟨w.heap.size, 2, none⟩ (.slice (some ⟨cb, 0, none⟩) n c') = w3 at *
  refine wp_region_held (S := fun W4 => Keeps (fun k => k = w.heap.size + 1) w3 W4) (by kernel_rfl) ?_
  change wpAnyH _ _ _ _ _ _ _ _ (World.drew _)
  have SW : Keeps (fun k => k = w.heap.size + 1) w3 w3.drew := (Keeps.refl _ w3).drew
  have SW0 : Keeps (fun _ => False) w3 w3.drew := (Keeps.refl _ w3).drew
  have hne : ¬ w.heap.size = w.heap.size + 1 := by omega
  refine wpAnyH_take (i := 0) (v := .agg (gdA W H (some ⟨cb, 0, none⟩) n c')) rfl (by kernel_rfl) (by kernel_rfl) (by kernel_rfl) (fun _ _ _ h => h) (yieldsIf_load_mid (by rfl) 24 _ rfl w.heap.size 0 (by rfl) (gdA W H (some ⟨cb, 0, none⟩) n c').toList _ (fun W4 hW4 => World.rangeAt_of_block (K13.keeps hW4 hne) 0 3) Tryd.underlying24 rfl (by exact size24)) SW ?_
  go_simp
  refine wpAnyH_take (i := 1) (v := .pointer (some ⟨w.heap.size, 2, none⟩)) rfl (by kernel_rfl) (by kernel_rfl) (by kernel_rfl) (fun _ _ _ h => h) (Or.inl ⟨by rfl, ?_⟩) SW ?_
  · intro W4 hW4
    go_simp <;> first | done | rfl | (rw [IntKind.wrap_i64]; omega) | omega
  go_simp
  refine wpAnyH_take (i := 2) (v := .slice (some ⟨cb, 0, none⟩) n c') rfl (by kernel_rfl) (by kernel_rfl) (by kernel_rfl) (fun _ _ _ h => h) (Or.inl ⟨by rfl, ?_⟩) SW ?_
  · intro W4 hW4
    have hc := (K13.keeps hW4 hne).cells
    go_simp <;> first | done | rfl | (rw [IntKind.wrap_i64]; omega) | omega
  go_simp
  refine wpAnyH_ready (rs := [3]) (by kernel_rfl) (by simp) ?_
  refine AllReadyH.cons rfl (fun K1 hK1 => ?_) AllReadyH.nil
  go_simp
  refine (Index_any _ n c' zs 0 _ (O3.out.keeps SW0 (fun h => h)).rd).mono ?_
  rintro e w5 ⟨rfl, hw5⟩
  subst w5
  refine hK1.out _ _ SW (fun SW => ?_)
  clear hK1 K1
  rw [hg]
  go_simp
  refine wpAnyH_take (i := 4) (v := .agg (trA W H (some ⟨cb, 0, none⟩) n c' g)) rfl (by kernel_rfl) (by kernel_rfl) (by kernel_rfl) (fun _ _ _ h => h) (Or.inl ⟨by rfl, ?_⟩) SW ?_
  · intro W4 hW4
    go_simp <;> first | done | rfl | (rw [IntKind.wrap_i64]; omega) | omega
  go_simp
  refine wpAnyH_ready (rs := [5]) (by kernel_rfl) (by simp) ?_
  refine AllReadyH.cons rfl (fun K1 hK1 => ?_) AllReadyH.nil
  refine wp_store_ty (.tmp 2) (.tmp 11) rfl (w.heap.size + 1) rfl rfl (K23.keeps SW0 (fun h => h)) ?_
  intro w6 T6 kk6
  refine hK1.out _ _ (SW.trans kk6) (fun SW => ?_)
  clear hK1 K1
  go_simp
  refine wpAnyH_done (by kernel_rfl) ?_ _
  have HT := hide T6
  have HO6 := hide (O3.out.keeps SW (by omega))
  have HB6 := hide (B3.out.trans ((SW.mono (Y := fun k => w.heap.size ≤ k) (fun k _ e => by omega)).below B3.out.size (fun k hk e => by omega)))
  clear K13 K23 SW SW0 kk6 T6
  go_wp2_with fail
  refine bodyPost_ret (results_ty rfl _ _ (w.heap.size + 1) rfl HT.out) rfl ⟨cb, c', rfl, HO6.out, by omega, HB6.out⟩

set_option maxHeartbeats 4000000 in
theorem home_any (W H : Int) (a : Option Addr) (n c p : Nat) (g : Int) (zs : List Int) (w : World) (h : Rd w a n c zs) (hp : p < n) (hn : n ≤ 25) (hz : 0 ≤ zs.getD p 0 ∧ zs.getD p 0 < n) :
    Calls Tryd.prog 53 #[.agg (trA W H a n c g), .int .i64 p] w fun e w' => e = .returned (.int .i64 (hom zs n p : Nat)) ∧ Below w.heap.size w w' := by
  obtain ⟨bb, off, rfl, hcs⟩ := h.cells (by omega)
  have hc := hcs p hp
  have hcap := h.cap
  have hmax := h.max
  unfold maxLen at hmax
  have HH : Hid (hom zs n p = ((zs.getD p 0).toNat + n - 1) % n) := hide rfl
  generalize hom zs n p = hm at *
  obtain ⟨z, hzz⟩ := Int.eq_ofNat_of_zero_le hz.1
  rw [hzz] at hc hz HH
  clear hcs h hzz
  have hmod : ((z : Int) + n - 1) % (n : Int) = (((z + n - 1) % n : Nat) : Int) := by
    rw [show ((z : Int) + n - 1) = ((z + n - 1 : Nat) : Int) by omega]
    simp
  have hn0 : ¬ (n : Int) = 0 := by omega
  obtain ⟨w1, hw1⟩ : ∃ w1, w.alloc (Obj.cells (trA W H (some ⟨bb, off, none⟩) n c g) 55) = w1 := ⟨_, rfl⟩
  have B1 : Below w.heap.size w w1 := by rw [← hw1]; exact (Below.refl _ w).alloc (Nat.le_refl _) _
  have hc1 : w1.cell? ⟨bb, off + p, none⟩ = some (.int .i64 (z : Int)) := (B1.cell (p := ⟨bb, off + p, none⟩) (World.block_lt_of_cell? w _ hc)).trans hc
  obtain ⟨t0, t1, t2, t3⟩ := (show Ty w1 w.heap.size W H (some ⟨bb, off, none⟩) n c g by rw [← hw1]; exact Ty.new _ _ _ _ _ _ _).cells
  have HB1 := hide B1
  clear hc B1
  go_enter Tryd.func53, Tryd.ntmps53
  go_upto_region 1 with fail
  clear hw1
  go_quiet (fail)
  go_wp2_with fail
  go_ret
  refine ⟨ret_int ?_, HB1.out.trans (drewN_below _ _ _)⟩
  rw [HH.out]
  exact hmod


end Go.Proofs.YticalbpohhpjaaaDoor
