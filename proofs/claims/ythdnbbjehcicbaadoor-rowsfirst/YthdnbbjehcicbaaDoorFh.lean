/-
  gameroomkeep's helpers: a number picked, an empty board. No conditions beyond those that each theorem bears.
-/
import Derived.Test.YthdnbbjehcicbaaDoorMov
namespace Go.Proofs.YthdnbbjehcicbaaDoor
open Go.RowKit

def pk (n : Int) (m : Nat) : Nat := (if n < 0 then -(n + 1) else n).toNat % m

theorem pk_lt (n : Int) (m : Nat) (h : 0 < m) : pk n m < m := Nat.mod_lt _ h

set_option maxHeartbeats 400000 in
theorem picked_any (n : Int) (m : Nat) (w : World) (h1 : -9223372036854775808 ≤ n) (h2 : n ≤ 9223372036854775807) (hm : 1 ≤ m) (hm2 : m ≤ 479001600) :
    Calls Tryd.prog 21 #[.int .i64 n, .int .i64 m] w fun e w' => e = .returned (.int .i64 (pk n m : Nat)) ∧ w' = w := by
  have hm' : ¬ (m : Int) = 0 := by omega
  by_cases hn : n < 0
  · obtain ⟨q, hq⟩ := Int.eq_ofNat_of_zero_le (show 0 ≤ -(n + 1) by omega)
    have HP : Hid (pk n m = q % m) := hide (by unfold pk; rw [if_pos hn, hq]; rfl)
    have e0 : n = -(q : Int) - 1 := by omega
    have hq2 : (q : Int) ≤ 9223372036854775807 := by omega
    subst e0
    have hmod : (q : Int) % (m : Int) = ((q % m : Nat) : Int) := by simp
    have hneg : -(-(q : Int) - 1 + 1) = (q : Int) := by omega
    generalize q % m = R at *
    clear hq
    go_enter Tryd.func21, Tryd.ntmps21
    go_wp2
    go_ret
    refine ⟨ret_int ?_, rfl⟩
    rw [HP.out, ← hmod]
  · obtain ⟨q, rfl⟩ := Int.eq_ofNat_of_zero_le (show 0 ≤ n by omega)
    have HP : Hid (pk (q : Int) m = q % m) := hide (by unfold pk; rw [if_neg hn]; rfl)
    have hmod : (q : Int) % (m : Int) = ((q % m : Nat) : Int) := by simp
    generalize q % m = R at *
    go_enter Tryd.func21, Tryd.ntmps21
    go_wp2
    go_ret
    refine ⟨?_, rfl⟩
    rw [HP.out]
    rfl

theorem build24 (W H : Int) (w : World) : (Instr.build 24 #[(0, .int .i64 W), (1, .int .i64 H)]).run Tryd.prog w = .ok (.agg #[.int .i64 W, .int .i64 H, .slice none 0 0]) w := by
  simp [Instr.build, go_sem, run_underlying Tryd.underlying24]

def zer (n : Nat) : List Int := List.replicate n 0
theorem zer_zero : zer 0 = [] := rfl
theorem zer_succ (n : Nat) : zer (n + 1) = zer n ++ [0] := by unfold zer; rw [List.replicate_succ']
theorem zer_len (n : Nat) : (zer n).length = n := by simp [zer]
theorem zer_getD (n i : Nat) : (zer n).getD i 0 = 0 := by simp [zer, List.getD, List.getElem?_replicate]; split <;> rfl

attribute [local irreducible] zer

set_option maxRecDepth 100000 in
set_option maxHeartbeats 2000000 in
theorem grid_zero (A B : Nat) (hA : 1 ≤ A ∧ A ≤ 3) (hB : 1 ≤ B ∧ B ≤ 3) (w : World) :
    Calls Tryd.prog 22 #[.int .i64 A, .int .i64 B, .slice none 0 0, .int .i64 0] w fun e w' => ∃ a' c', e = .returned (.agg (gdA A B a' (A * B) c')) ∧ Rd w' a' (A * B) c' (zer (A * B)) ∧ Below w.heap.size w w' := by
  have hm : A * B ≤ 3 * 3 := Nat.mul_le_mul hA.2 hB.2
  obtain ⟨M, hM⟩ : ∃ M, A * B = M := ⟨_, rfl⟩
  have hMi : (A : Int) * (B : Int) = (M : Int) := by rw [← hM]; simp
  rw [hM] at hm ⊢
  have bb := build24 A B (w.alloc (.cells (gdA 0 0 none 0 0) 24))
  have bb2 := build24 A B
  obtain ⟨w2, hw2⟩ : ∃ w2, (w.alloc (.cells (gdA 0 0 none 0 0) 24)).alloc (.cells (gdA 0 0 none 0 0) 24) = w2 := ⟨_, rfl⟩
  have K0 : Gd w2 w.heap.size 0 0 none 0 0 := by rw [← hw2]; exact (Gd.new w 0 0 none 0 0).old _
  have K1 : Gd w2 (w.heap.size + 1) 0 0 none 0 0 := by
    rw [← hw2]
    have := Gd.new (w.alloc (Obj.cells (gdA 0 0 none 0 0) 24)) 0 0 none 0 0
    rw [World.size_alloc] at this
    exact this
  have B2 : Below w.heap.size w w2 := by rw [← hw2]; exact ((Below.refl _ w).alloc (Nat.le_refl _) _).alloc (by simp) _
  have hs2 : w2.heap.size = w.heap.size + 2 := by rw [← hw2]; simp
  go_enter Tryd.func22, Tryd.ntmps22
  go_upto_region 1 with fail
  go_wp2_with (refine wpList_store_gd rfl (.tmp 9) (.tmp 14) rfl (w.heap.size + 1) rfl rfl K1 ?_; intro w3 k3 kk3)
  have HG3 := hide k3
  have HR3 := hide (K0.keeps kk3 (by omega))
  have HB3 := hide (B2.trans ((kk3.mono (Y := fun k => w.heap.size ≤ k) (fun k _ e => by omega)).below B2.size (fun k hk e => by omega)))
  have hs3 : w.heap.size + 2 ≤ w3.heap.size := by have := kk3.size; omega
  have HS3 := hide hs3
  clear k3 kk3 K0 K1 B2 hs2 bb bb2 hw2 hs3 w2
  go_wp2_with fail
  go_loopw [10, 11] (fun u _ wr => ∃ (j cp : Nat) (ad : Option Addr), u = .int .i64 j ∧ j ≤ M ∧ Hid (Gd wr (w.heap.size + 1) A B ad j cp) ∧ Hid (Gd wr w.heap.size 0 0 none 0 0) ∧ Hid (wr.ownsRow (w.heap.size + 2) 3 1 (.slice ad j cp) j ((zer j).map (Value.int .i64))) ∧ Hid (Below w.heap.size w wr) ∧ Hid (w.heap.size + 2 ≤ wr.heap.size)) (fun u _ _ => M - (intOf u).toNat)
  case atStart =>
    exact ⟨0, 0, none, rfl, by omega, HG3, HR3, by rw [zer_zero]; exact hide (World.ownsRow_nil _ _ _ _), HB3, HS3⟩
  case round =>
    obtain ⟨j, cp, ad, rfl, hj, hG, hR, hO, hB, hS⟩ := hrel
    clear HG3 HR3 HB3 HS3
    by_cases hlt : j < M
    · have hlt' : (j : Int) < (M : Int) := by omega
      have hj0 : ¬ (j : Int) < 0 := by omega
      obtain ⟨-, -, g2⟩ := hG.out.cells
      have f2 := hG.out.frozen 2
      have hR1 : Rd (World.alloc wr (.cells #[.int .i64 0] 3)) (some ⟨wr.heap.size, 0, none⟩) 1 1 [0] := Rd.of_blk (Blk.new wr 3 [0] _ rfl) rfl (by decide)
      have hOa := hO.out.alloc (.cells #[.int .i64 0] 3)
      have hBa := hB.out.alloc hB.out.size (.cells #[.int .i64 0] 3)
      have hCa := (Below.refl (w.heap.size + 2) wr).alloc hS.out (.cells #[.int .i64 0] 3)
      have hsz : w.heap.size + 2 ≤ (World.alloc wr (.cells #[.int .i64 0] 3)).heap.size := by have := hS.out; simp; omega
      go_wp2_with (at_builtin; refine wpList_append_rd _ rfl _ _ rfl (w.heap.size + 2) _ j (zer j) rfl hOa (some ⟨wr.heap.size, 0, none⟩) 1 1 [0] rfl hR1 (by omega) hsz ?_)
      intro v' w6 hO6 hg6
      obtain ⟨ad6, cp6, rfl⟩ := slice_form hO6
      have hq : ∀ q, (Value.slice ad j cp).ownBlock = some q → w.heap.size + 2 ≤ q := (fun q hq => by rcases hO.out.2 with ⟨e, _⟩ | ⟨g, cap, cur, e, hbg, _⟩ <;> rw [e] at hq <;> simp [Value.ownBlock] at hq; omega)
      have hB6 := hBa.grown hg6 (by omega) (fun q h => by have := hq q h; omega)
      have hC6 := hCa.grown hg6 hsz (fun q h => hq q h)
      have G6 := hG.out.below hC6 (by omega)
      have R6 := hR.out.below hC6 (by omega)
      have hs6 := hC6.size
      have HO6 := hide (own_keeps hO6 (Keeps.set1 w6 (w.heap.size + 1) 2 (.slice ad6 (j + 1) cp6)) (by omega))
      have HG6 := hide (G6.setP ad6 (j + 1) cp6)
      have HR6 := hide (R6.other (show w.heap.size ≠ w.heap.size + 1 by omega) 2 (.slice ad6 (j + 1) cp6))
      have HB6 := hide (hB6.setCell (p := ⟨w.heap.size + 1, 2, none⟩) (by show w.heap.size ≤ w.heap.size + 1; omega) (.slice ad6 (j + 1) cp6))
      have HS6 : Hid (w.heap.size + 2 ≤ (w6.setCell ⟨w.heap.size + 1, 2, none⟩ (.slice ad6 (j + 1) cp6)).heap.size) := hide (by have := hS.out; simp; omega)
      obtain ⟨-, -, g6⟩ := G6.cells
      have f6 := G6.frozen 2
      clear hO6 hg6 hR1 hOa hBa hCa hC6 hB6 G6 R6 hsz hs6 g2 f2 hq hG hR hO hB hS
      go_wp2_with fail
      refine ⟨⟨j + 1, cp6, ad6, by go_num, by omega, HG6, HR6, ?_, HB6, HS6⟩, by simp [intOf]; omega⟩
      rw [zer_succ, List.map_append]
      exact HO6
    · have hlt' : ¬ (j : Int) < (M : Int) := by omega
      have hje : j = M := by omega
      subst hje
      have K13 := hG.out
      have K23 := hR.out
      go_wp2_with (first
        | refine wpList_load_gd rfl (.tmp 9) rfl (w.heap.size + 1) rfl K13 ?_
        | (refine wpList_store_gd rfl (.tmp 8) (.tmp 39) rfl w.heap.size rfl rfl K23 ?_; intro w6 k6 kk6))
      refine bodyPost_ret (results_gd rfl _ _ w.heap.size rfl k6) rfl ⟨ad, cp, rfl, Rd.of_own (own_keeps hO.out kk6 (by omega)), ?_⟩
      exact hB.out.trans ((kk6.mono (Y := fun k => w.heap.size ≤ k) (fun k _ e => by omega)).below hB.out.size (fun k hk e => by omega))

end Go.Proofs.YthdnbbjehcicbaaDoor
