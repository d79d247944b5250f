/-
  A board behind a move, and passed; by how many signs the mover is ahead: walked. No conditions beyond those that each theorem bears.
-/
import Derived.Test.YtkmghlmniahgbaaDoorTu
namespace Go.Proofs.YtkmghlmniahgbaaDoor
open Go.RowKit

/-- A board as its mover sees it. -/
abbrev brd (W H : Nat) (Z : List Int) (m : Nat) : Array Value := bdA (so W H Z m) (so W H Z (3 - m)) (so W H Z 0)

theorem moves_any {W H : Nat} {Z : List Int} {m : Nat} (hW : 1 ≤ W ∧ W ≤ 8) (hH : H ≤ 8) (hm : m = 1 ∨ m = 2) (w : World) (hT : DTab w) :
    Calls Tryd.prog 31 #[.agg (brd W H Z m)] w fun e w' => e = .returned (.int .u64 (mvS W H Z m : Nat)) ∧ Below w.heap.size w w' := by
  refine (moves_raw (cl W H Z) m _ _ _ (cl_onC hW.2 hH Z) hm (so_lt _ _ _ _) (so_lt _ _ _ _) (so_lt _ _ _ _) (so_bt hW.2 hH Z m) (fun x y => by rw [so_bt hW.2 hH, other_int hm]) (so_bt hW.2 hH Z 0) w hT).mono ?_
  rintro e w' ⟨f, rfl, hf, hb⟩
  rw [fnd_all hW.2 hH hm hf]
  exact ⟨rfl, hb⟩

theorem turned_any {W H : Nat} {Z : List Int} {m p : Nat} (hW : 1 ≤ W ∧ W ≤ 8) (hH : H ≤ 8) (hm : m = 1 ∨ m = 2) (hp : p < W * H) (w : World) (hT : DTab w) :
    Calls Tryd.prog 36 #[.agg (brd W H Z m), .int .u64 (bv ((p % W : Nat) : Int) ((p / W : Nat) : Int) : Nat)] w fun e w' => e = .returned (.int .u64 (tnS W H Z m ((p % W : Nat) : Int) ((p / W : Nat) : Int) : Nat)) ∧ Below w.heap.size w w' := by
  have hp8 := on8_of hW.2 hH (cl_at (zs := Z) (show 0 < W by omega) hp).2
  refine (turned_raw (cl W H Z) m _ _ _ _ _ (cl_onC hW.2 hH Z) hm (so_lt _ _ _ _) (so_lt _ _ _ _) hp8 (so_bt hW.2 hH Z m) (fun x y => by rw [so_bt hW.2 hH, other_int hm]) w hT).mono ?_
  rintro e w' ⟨f, rfl, hf, hb⟩
  rw [al_all hW.2 hH hm hp8 hf]
  exact ⟨rfl, hb⟩

attribute [local irreducible] so tnS bv pz mvS

set_option maxRecDepth 100000 in
set_option maxHeartbeats 2000000 in
theorem put_any {W H : Nat} {Z : List Int} {m p : Nat} (hW : 1 ≤ W ∧ W ≤ 8) (hH : H ≤ 8) (hm : m = 1 ∨ m = 2) (hp : p < W * H) (h0 : Z.getD p 0 = 0) (w : World) (hT : DTab w) :
    Calls Tryd.prog 52 #[.agg (brd W H Z m), .int .u64 (bv ((p % W : Nat) : Int) ((p / W : Nat) : Int) : Nat)] w fun e w' => e = .returned (.agg (brd W H (pz W H Z m p) (3 - m))) ∧ Below w.heap.size w w' := by
  have HC := hide (fun W1 h1 => turned_any (Z := Z) hW hH hm hp W1 h1)
  obtain ⟨e1, e2, e3⟩ := put_sets hW hH hm hp h0
  have hmm : 3 - (3 - m) = m := by omega
  have HT := hide hT
  have ho := so_lt W H Z m
  have ht := so_lt W H Z (3 - m)
  have he := so_lt W H Z 0
  have hb := bv_lt ((p % W : Nat) : Int) ((p / W : Nat) : Int)
  have hq := tnS_lt W H Z m ((p % W : Nat) : Int) ((p / W : Nat) : Int)
  dsimp only [brd] at HC ⊢
  rw [hmm]
  generalize so W H Z m = o at *
  generalize so W H Z (3 - m) = t at *
  generalize so W H Z 0 = e at *
  generalize so W H (pz W H Z m p) m = o' at *
  generalize so W H (pz W H Z m p) (3 - m) = t' at *
  generalize so W H (pz W H Z m p) 0 = e' at *
  generalize bv ((p % W : Nat) : Int) ((p / W : Nat) : Int) = B at *
  generalize tnS W H Z m ((p % W : Nat) : Int) ((p / W : Nat) : Int) = T at *
  rw [p64] at ho ht he hb hq
  have x1 : bits BinOp.andNot IntKind.u64 (t : Int) (T : Int) = (t' : Int) := by rw [u64_andNot_nat _ _ ht hq, e1]
  obtain ⟨q, hq'⟩ : ∃ q, o ||| T = q := ⟨_, rfl⟩
  have hqb : q < 18446744073709551616 := by rw [← hq', ← p64]; exact Nat.or_lt_two_pow ho hq
  have x2 : bits BinOp.or IntKind.u64 (o : Int) (T : Int) = (q : Int) := by rw [u64_or_nat _ _ ho hq, hq']
  rw [hq'] at e2
  have x3 : bits BinOp.or IntKind.u64 (q : Int) (B : Int) = (o' : Int) := by rw [u64_or_nat _ _ hqb hb, e2]
  have x4 : bits BinOp.andNot IntKind.u64 (e : Int) (B : Int) = (e' : Int) := by rw [u64_andNot_nat _ _ he hb, e3]
  clear e1 e2 e3 hmm ho ht he hb hq hq' hqb hT hp h0 hm hW hH
  go_enter Tryd.func52, Tryd.ntmps52
  go_upto_region 1 with fail
  obtain ⟨w1, hw1⟩ : ∃ w1, (w.alloc (Obj.cells (bdA o t e) 55)).alloc (Obj.cells #[.int .u64 0, .int .u64 0, .int .u64 0] 55) = w1 := ⟨_, rfl⟩
  rw [hw1]
  have K1 : Bd w1 w.heap.size o t e := by rw [← hw1]; exact (Bd.new w o t e).old _
  have K2 : Bd w1 (w.heap.size + 1) 0 0 0 := by
    rw [← hw1]
    have := Bd.new (w.alloc (Obj.cells (bdA o t e) 55)) 0 0 0
    rw [World.size_alloc] at this
    exact this
  have hs1 : w1.heap.size = w.heap.size + 1 + 1 := by rw [← hw1]; simp
  have B1 : Below w.heap.size w w1 := by rw [← hw1]; exact ((Below.refl _ w).alloc (Nat.le_refl _) _).alloc (by simp) _
  have HS := hide hs1
  have HB1 := hide B1
  have HCL := hide (HC.out w1 (HT.out.mono B1))
  clear hw1 hs1 B1 HC HT
  go_wp2_with (refine wpList_load_bd rfl (.tmp 2) rfl w.heap.size rfl K1 ?_)
  refine HCL.out.mono ?_
  rintro r w2 ⟨rfl, hb2⟩
  have K12 := K1.below hb2 (by have := HS.out; omega)
  have K22 := K2.below hb2 (by have := HS.out; omega)
  have HB2 := hide (HB1.out.trans (hb2.mono HB1.out.size))
  obtain ⟨c0, c1, c2⟩ := K12.cells
  clear K1 K2 hb2 K12 HCL
  go_wp2_with (refine wpList_store_bd rfl (.tmp 4) (.tmp 23) rfl (w.heap.size + 1) rfl rfl K22 ?_; intro w6 k6 kk6)
  refine bodyPost_ret (results_bd rfl _ _ (w.heap.size + 1) rfl k6) rfl ⟨rfl, ?_⟩
  exact HB2.out.trans ((kk6.mono (Y := fun k => w.heap.size ≤ k) (fun k _ e => by omega)).below (by have := HB2.out.size; omega) (fun k hk e => by omega))

set_option maxRecDepth 100000 in
set_option maxHeartbeats 2000000 in
theorem passed_any {W H : Nat} {Z : List Int} {m : Nat} (hm : m = 1 ∨ m = 2) (w : World) :
    Calls Tryd.prog 37 #[.agg (brd W H Z m)] w fun e w' => e = .returned (.agg (brd W H Z (3 - m))) ∧ Below w.heap.size w w' := by
  have hmm : 3 - (3 - m) = m := by omega
  dsimp only [brd]
  rw [hmm]
  generalize so W H Z m = o at *
  generalize so W H Z (3 - m) = t at *
  generalize so W H Z 0 = e at *
  clear hmm hm
  go_enter Tryd.func37, Tryd.ntmps37
  go_upto_region 1 with fail
  obtain ⟨w1, hw1⟩ : ∃ w1, (w.alloc (Obj.cells (bdA o t e) 55)).alloc (Obj.cells #[.int .u64 0, .int .u64 0, .int .u64 0] 55) = w1 := ⟨_, rfl⟩
  rw [hw1]
  have K1 : Bd w1 w.heap.size o t e := by rw [← hw1]; exact (Bd.new w o t e).old _
  have K2 : Bd w1 (w.heap.size + 1) 0 0 0 := by
    rw [← hw1]
    have := Bd.new (w.alloc (Obj.cells (bdA o t e) 55)) 0 0 0
    rw [World.size_alloc] at this
    exact this
  have HB1 : Hid (Below w.heap.size w w1) := hide (by rw [← hw1]; exact ((Below.refl _ w).alloc (Nat.le_refl _) _).alloc (by simp) _)
  clear hw1
  obtain ⟨c0, c1, c2⟩ := K1.cells
  clear K1
  go_wp2_with (refine wpList_store_bd rfl (.tmp 2) (.tmp 9) rfl (w.heap.size + 1) rfl rfl K2 ?_; intro w6 k6 kk6)
  refine bodyPost_ret (results_bd rfl _ _ (w.heap.size + 1) rfl k6) rfl ⟨rfl, ?_⟩
  exact HB1.out.trans ((kk6.mono (Y := fun k => w.heap.size ≤ k) (fun k _ e => by omega)).below (by have := HB1.out.size; omega) (fun k hk e => by omega))

/-- How many signs of a kind there are. -/
def cnt (W H : Nat) (Z : List Int) (v : Nat) : Nat := ((List.range (W * H)).filter fun k => decide (Z.getD k 0 = (v : Int))).length

/-- By how many signs m is ahead. -/
def ldd (W H : Nat) (Z : List Int) (m : Nat) : Int := (cnt W H Z m : Int) - (cnt W H Z (3 - m) : Int)

theorem cnt_le (W H : Nat) (Z : List Int) (v : Nat) : cnt W H Z v ≤ W * H := Nat.le_trans (List.length_filter_le _ _) (by simp)

set_option maxRecDepth 100000 in
set_option maxHeartbeats 2000000 in
theorem lead_any {W H : Nat} {Z : List Int} {m : Nat} (hW : 1 ≤ W ∧ W ≤ 8) (hH : H ≤ 8) (w : World) :
    Calls Tryd.prog 53 #[.agg (brd W H Z m)] w fun e w' => e = .returned (.int .i64 (ldd W H Z m)) ∧ Below w.heap.size w w' := by
  have HC1 := hide (fun W1 => count_any (so W H Z m) (so_lt _ _ _ _) W1)
  have HC2 := hide (fun W1 => count_any (so W H Z (3 - m)) (so_lt _ _ _ _) W1)
  rw [so_count hW hH] at HC1 HC2
  have b1 := cnt_le W H Z m
  have b2 := cnt_le W H Z (3 - m)
  have hWH : W * H ≤ 8 * 8 := Nat.mul_le_mul hW.2 hH
  have e1 : (cnt W H Z m : Int) - (cnt W H Z (3 - m) : Int) = ldd W H Z m := rfl
  change Hid (∀ W1, Calls _ _ _ _ fun e w' => e = Ending.returned (.int .i64 (cnt W H Z m : Nat)) ∧ w' = W1) at HC1
  change Hid (∀ W1, Calls _ _ _ _ fun e w' => e = Ending.returned (.int .i64 (cnt W H Z (3 - m) : Nat)) ∧ w' = W1) at HC2
  dsimp only [brd]
  generalize so W H Z m = o at *
  generalize so W H Z (3 - m) = t at *
  generalize so W H Z 0 = e at *
  generalize cnt W H Z m = A at *
  generalize cnt W H Z (3 - m) = B at *
  generalize ldd W H Z m = L at *
  clear hW hH
  go_enter Tryd.func53, Tryd.ntmps53
  go_upto_region 1 with fail
  obtain ⟨w1, hw1⟩ : ∃ w1, w.alloc (.cells (bdA o t e) 55) = w1 := ⟨_, rfl⟩
  have HB0 : Hid (Below w.heap.size w w1) := hide (by rw [← hw1]; exact (Below.refl _ _).alloc (Nat.le_refl _) _)
  obtain ⟨c0, c1, -⟩ := (show Bd w1 w.heap.size o t e by rw [← hw1]; exact Bd.new w o t e).cells
  rw [hw1]
  clear hw1
  refine wp_region_held (S := fun W4 => w1.heap = W4.heap ∧ Below w1.heap.size w1 W4) (by kernel_rfl) ?_
  change wpAnyH _ _ _ _ _ _ _ _ (World.drew _)
  have SW : w1.heap = w1.drew.heap ∧ Below w1.heap.size w1 w1.drew := ⟨rfl, (Below.refl _ w1).drew⟩
  refine wpAnyH_take (i := 0) (v := .pointer (some ⟨w.heap.size, 0, none⟩)) rfl (by kernel_rfl) (by kernel_rfl) (by kernel_rfl) (fun _ _ _ h => h) (Or.inl ⟨by rfl, ?_⟩) SW ?_
  · intro W4 hW4
    go_simp <;> first | done | rfl | (rw [IntKind.wrap_i64]; omega) | omega
  go_simp
  refine wpAnyH_take (i := 1) (v := .int .u64 (o : Nat)) rfl (by kernel_rfl) (by kernel_rfl) (by kernel_rfl) (fun _ _ _ h => h) (Or.inl ⟨by rfl, ?_⟩) SW ?_
  · intro W4 hW4
    have x0 := (hW4.2.cell (p := ⟨w.heap.size, 0, none⟩) (World.block_lt_of_cell? _ _ c0)).trans c0
    go_simp <;> first | done | rfl | (rw [IntKind.wrap_i64]; omega) | omega
  go_simp
  refine wpAnyH_take (i := 3) (v := .pointer (some ⟨w.heap.size, 1, none⟩)) rfl (by kernel_rfl) (by kernel_rfl) (by kernel_rfl) (fun _ _ _ h => h) (Or.inl ⟨by rfl, ?_⟩) SW ?_
  · intro W4 hW4
    go_simp <;> first | done | rfl | (rw [IntKind.wrap_i64]; omega) | omega
  go_simp
  refine wpAnyH_take (i := 4) (v := .int .u64 (t : Nat)) rfl (by kernel_rfl) (by kernel_rfl) (by kernel_rfl) (fun _ _ _ h => h) (Or.inl ⟨by rfl, ?_⟩) SW ?_
  · intro W4 hW4
    have x0 := (hW4.2.cell (p := ⟨w.heap.size, 1, none⟩) (World.block_lt_of_cell? _ _ c1)).trans c1
    go_simp <;> first | done | rfl | (rw [IntKind.wrap_i64]; omega) | omega
  go_simp
  refine wpAnyH_ready (rs := [2]) (by kernel_rfl) (by simp) ?_
  refine AllReadyH.cons rfl (fun K1 hK1 => ?_) AllReadyH.nil
  go_simp
  refine (HC1.out _).mono ?_
  rintro r w5 ⟨rfl, hw5⟩
  subst w5
  refine hK1.out _ _ SW (fun SW => ?_)
  clear hK1 K1
  go_simp
  refine wpAnyH_ready (rs := [5]) (by kernel_rfl) (by simp) ?_
  refine AllReadyH.cons rfl (fun K1 hK1 => ?_) AllReadyH.nil
  go_simp
  refine (HC2.out _).mono ?_
  rintro r w5 ⟨rfl, hw5⟩
  subst w5
  refine hK1.out _ _ SW (fun SW => ?_)
  clear hK1 K1
  go_simp
  refine wpAnyH_take (i := 6) (v := .int .i64 L) rfl (by kernel_rfl) (by kernel_rfl) (by kernel_rfl) (fun _ _ _ h => h) (Or.inl ⟨by rfl, ?_⟩) SW ?_
  · intro W4 hW4
    have e1 := e1
    go_simp <;> first | done | rfl | (rw [IntKind.wrap_i64]; omega) | omega
  go_simp
  refine wpAnyH_ready (rs := [7]) (by kernel_rfl) (by simp) ?_
  refine AllReadyH.cons rfl (fun K1 hK1 => ?_) AllReadyH.nil
  go_simp
  refine hK1.out _ _ SW (fun SW => ?_)
  clear hK1 K1
  go_simp
  refine wpAnyH_done (by kernel_rfl) ?_ _
  have HB5 := hide SW.2
  clear SW
  go_wp2_with fail
  go_ret
  exact ⟨rfl, HB0.out.trans (HB5.out.mono HB0.out.size)⟩

end Go.Proofs.YtkmghlmniahgbaaDoor
