/-
  gameroomkeep's helpers: a board out of raw numbers, a row copied. No conditions beyond those that each theorem bears.
-/
import Derived.Test.YtafiaimlmdflnaaBs
import Derived.Test.YtafiaimlmdflnaaFh
namespace Go.Proofs.Ytafiaimlmdflnaa
open Go.RowKit Go.Shelf

theorem build24 (W H : Int) (w : World) : (Instr.build 24 #[(0, .int .i64 W), (1, .int .i64 H)]).run Try.prog w = .ok (.agg #[.int .i64 W, .int .i64 H, .slice none 0 0]) w := by
  simp [Instr.build, go_sem, run_underlying Try.underlying24]

/-- The signs that raw numbers make. -/
def grL (R : List Int) (t M : Nat) : List Int := (List.range M).map fun i => if i < R.length then ((pk (R.getD i 0) (t + 1) : Nat) : Int) else 0
theorem grL_zero (R : List Int) (t : Nat) : grL R t 0 = [] := rfl
theorem grL_succ (R : List Int) (t j : Nat) : grL R t (j + 1) = grL R t j ++ [if j < R.length then ((pk (R.getD j 0) (t + 1) : Nat) : Int) else 0] := by simp [grL, List.range_succ]
theorem grL_len (R : List Int) (t M : Nat) : (grL R t M).length = M := by simp [grL]

attribute [local irreducible] grL pk

set_option maxRecDepth 100000 in
set_option maxHeartbeats 2000000 in
theorem grid_any (A B t : Nat) (hA : 1 ≤ A ∧ A ≤ 10) (hB : 1 ≤ B ∧ B ≤ 10) (ht : t ≤ 2) (ra : Option Addr) (rn rc : Nat) (R : List Int) (hRg : ∀ u ∈ R, -9223372036854775808 ≤ u ∧ u ≤ 9223372036854775807) (w : World) (hRR : Rd w ra rn rc R) :
    Calls Try.prog 25 #[.int .i64 A, .int .i64 B, .slice ra rn rc, .int .i64 t] w fun e w' => ∃ a' c', e = .returned (.agg (gdA A B a' (A * B) c')) ∧ w'.ownsRow w.heap.size 3 1 (.slice a' (A * B) c') (A * B) ((grL R t (A * B)).map (Value.int .i64)) ∧ Below w.heap.size w w' := by
  have hm : A * B ≤ 10 * 10 := Nat.mul_le_mul hA.2 hB.2
  obtain ⟨M, hM⟩ : ∃ M, A * B = M := ⟨_, rfl⟩
  have hMi : (A : Int) * (B : Int) = (M : Int) := by rw [← hM]; simp
  rw [hM] at hm ⊢
  have hrl := hRR.len
  have hrm : rc ≤ 9223372036854775807 := by have := hRR.max; unfold maxLen at this; omega
  have hrc := hRR.cap
  have HRR := hide hRR
  have HRG := hide hRg
  have HGS := hide (grL_succ R t)
  have HPK := hide (fun (x : Int) h1 h2 W => picked_any x (t + 1) W h1 h2 (by omega) (by omega))
  have HPL : Hid (∀ x : Int, pk x (t + 1) ≤ 2) := hide (fun x => by have := pk_lt x (t + 1) (by omega); omega)
  obtain ⟨t1, ht1⟩ : ∃ t1, t + 1 = t1 := ⟨_, rfl⟩
  have ht1i : (t : Int) + 1 = (t1 : Int) := by omega
  rw [ht1] at HGS HPK HPL
  clear hRR hRg ht1
  have bb := build24 A B (w.alloc (.cells (gdA 0 0 none 0 0) 24))
  have bb2 := build24 A B
  obtain ⟨w2, hw2⟩ : ∃ w2, (w.alloc (.cells (gdA 0 0 none 0 0) 24)).alloc (.cells (gdA 0 0 none 0 0) 24) = w2 := ⟨_, rfl⟩
  have K0 : Gd w2 w.heap.size 0 0 none 0 0 := by rw [← hw2]; exact (Gd.new w 0 0 none 0 0).old _
  have K1 : Gd w2 (w.heap.size + 1) 0 0 none 0 0 := by
    rw [← hw2]
    have := Gd.new (w.alloc (Obj.cells (gdA 0 0 none 0 0) 24)) 0 0 none 0 0
    rw [World.size_alloc] at this
    exact this
  have B2 : Below w.heap.size w w2 := by rw [← hw2]; exact ((Below.refl _ w).alloc (Nat.le_refl _) _).alloc (by simp) _
  have hs2 : w2.heap.size = w.heap.size + 2 := by rw [← hw2]; simp
  go_enter Try.func25, Try.ntmps25
  go_upto_region 1 with fail
  go_wp2_with (refine wpList_store_gd rfl (.tmp 9) (.tmp 14) rfl (w.heap.size + 1) rfl rfl K1 ?_; intro w3 k3 kk3)
  have HG3 := hide k3
  have HR3 := hide (K0.keeps kk3 (by omega))
  have HB3 := hide (B2.trans ((kk3.mono (Y := fun k => w.heap.size ≤ k) (fun k _ e => by omega)).below B2.size (fun k hk e => by omega)))
  have hs3 : w.heap.size + 2 ≤ w3.heap.size := by have := kk3.size; omega
  have HS3 := hide hs3
  clear k3 kk3 K0 K1 B2 hs2 bb bb2 hw2 hs3 w2
  go_wp2_with fail
  go_loopw [10, 11] (fun u _ wr => ∃ (j cp : Nat) (ad : Option Addr), u = .int .i64 j ∧ j ≤ M ∧ Hid (Gd wr (w.heap.size + 1) A B ad j cp) ∧ Hid (Gd wr w.heap.size 0 0 none 0 0) ∧ Hid (wr.ownsRow (w.heap.size + 2) 3 1 (.slice ad j cp) j ((grL R t j).map (Value.int .i64))) ∧ Hid (Below w.heap.size w wr) ∧ Hid (w.heap.size + 2 ≤ wr.heap.size)) (fun u _ _ => M - (intOf u).toNat)
  case atStart =>
    exact ⟨0, 0, none, rfl, by omega, HG3, HR3, by rw [grL_zero]; exact hide (World.ownsRow_nil _ _ _ _), HB3, HS3⟩
  case round =>
    obtain ⟨j, cp, ad, rfl, hj, hG, hR, hO, hB, hS⟩ := hrel
    clear HG3 HR3 HB3 HS3
    by_cases hlt : j < M
    · have hlt' : (j : Int) < (M : Int) := by omega
      have hj0 : ¬ (j : Int) < 0 := by omega
      by_cases hjr : j < rn
      · have hjr' : (j : Int) < (rn : Int) := by omega
        obtain ⟨rb, ro, rfl, hcell⟩ := (HRR.out.mono hB.out).cells (by omega)
        have hcj := hcell j hjr
        have hb2 := HRG.out (R.getD j 0) (getD_mem (by omega))
        have HP := hide (HPK.out (R.getD j 0) hb2.1 hb2.2)
        have hX2 := HPL.out (R.getD j 0)
        have HGJ := hide (HGS.out j)
        rw [if_pos (by omega)] at HGJ
        obtain ⟨y, hy⟩ : ∃ y, R.getD j 0 = y := ⟨_, rfl⟩
        rw [hy] at hcj HP hX2 HGJ
        obtain ⟨X, hX⟩ : ∃ X, pk y t1 = X := ⟨_, rfl⟩
        rw [hX] at HP hX2 HGJ
        clear hcell hb2 hy hX
        obtain ⟨-, -, g2⟩ := hG.out.cells
        have f2 := hG.out.frozen 2
        have hR1 : Rd (World.alloc wr (.cells #[.int .i64 (X : Nat)] 3)) (some ⟨wr.heap.size, 0, none⟩) 1 1 [(X : Int)] := Rd.of_blk (Blk.new wr 3 [(X : Int)] _ rfl) rfl (by decide)
        have hOa := hO.out.alloc (.cells #[.int .i64 (X : Nat)] 3)
        have hBa := hB.out.alloc hB.out.size (.cells #[.int .i64 (X : Nat)] 3)
        have hCa := (Below.refl (w.heap.size + 2) wr).alloc hS.out (.cells #[.int .i64 (X : Nat)] 3)
        have hsz : w.heap.size + 2 ≤ (World.alloc wr (.cells #[.int .i64 (X : Nat)] 3)).heap.size := by have := hS.out; simp; omega
        go_wp2_with fail
        refine (HP.out _).mono ?_
        rintro e wx ⟨rfl, hwx⟩
        subst wx
        go_wp2_with (at_builtin; refine wpList_append_rd _ rfl _ _ rfl (w.heap.size + 2) _ j (grL R t j) rfl hOa (some ⟨wr.heap.size, 0, none⟩) 1 1 [(X : Int)] rfl hR1 (by omega) hsz ?_)
        intro v' w6 hO6 hg6
        obtain ⟨ad6, cp6, rfl⟩ := slice_form hO6
        have hq : ∀ q, (Value.slice ad j cp).ownBlock = some q → w.heap.size + 2 ≤ q := (fun q hq => by rcases hO.out.2 with ⟨e, _⟩ | ⟨g, cap, cur, e, hbg, _⟩ <;> rw [e] at hq <;> simp [Value.ownBlock] at hq; omega)
        have hB6 := hBa.grown hg6 (by omega) (fun q h => by have := hq q h; omega)
        have hC6 := hCa.grown hg6 hsz (fun q h => hq q h)
        have G6 := hG.out.below hC6 (by omega)
        have R6 := hR.out.below hC6 (by omega)
        have hs6 := hC6.size
        have HO6 := hide (own_keeps hO6 (Keeps.set1 w6 (w.heap.size + 1) 2 (.slice ad6 (j + 1) cp6)) (by omega))
        have HG6 := hide (G6.setP ad6 (j + 1) cp6)
        have HR6 := hide (R6.other (show w.heap.size ≠ w.heap.size + 1 by omega) 2 (.slice ad6 (j + 1) cp6))
        have HB6 := hide (hB6.setCell (p := ⟨w.heap.size + 1, 2, none⟩) (by show w.heap.size ≤ w.heap.size + 1; omega) (.slice ad6 (j + 1) cp6))
        have HS6 : Hid (w.heap.size + 2 ≤ (w6.setCell ⟨w.heap.size + 1, 2, none⟩ (.slice ad6 (j + 1) cp6)).heap.size) := hide (by have := hS.out; simp; omega)
        obtain ⟨-, -, g6⟩ := G6.cells
        have f6 := G6.frozen 2
        clear hO6 hg6 hR1 hOa hBa hCa hC6 hB6 G6 R6 hsz hs6 g2 f2 hq hG hR hO hB hS
        go_wp2_with fail
        refine ⟨⟨j + 1, cp6, ad6, by go_num, by omega, HG6, HR6, ?_, HB6, HS6⟩, by simp [intOf]; omega⟩
        rw [HGJ.out, List.map_append]
        exact HO6
      · have hjr' : ¬ (j : Int) < (rn : Int) := by omega
        have HGJ := hide (HGS.out j)
        rw [if_neg (by omega)] at HGJ
        obtain ⟨-, -, g2⟩ := hG.out.cells
        have f2 := hG.out.frozen 2
        have hR1 : Rd (World.alloc wr (.cells #[.int .i64 0] 3)) (some ⟨wr.heap.size, 0, none⟩) 1 1 [0] := Rd.of_blk (Blk.new wr 3 [0] _ rfl) rfl (by decide)
        have hOa := hO.out.alloc (.cells #[.int .i64 0] 3)
        have hBa := hB.out.alloc hB.out.size (.cells #[.int .i64 0] 3)
        have hCa := (Below.refl (w.heap.size + 2) wr).alloc hS.out (.cells #[.int .i64 0] 3)
        have hsz : w.heap.size + 2 ≤ (World.alloc wr (.cells #[.int .i64 0] 3)).heap.size := by have := hS.out; simp; omega
        go_wp2_with (at_builtin; refine wpList_append_rd _ rfl _ _ rfl (w.heap.size + 2) _ j (grL R t j) rfl hOa (some ⟨wr.heap.size, 0, none⟩) 1 1 [0] rfl hR1 (by omega) hsz ?_)
        intro v' w6 hO6 hg6
        obtain ⟨ad6, cp6, rfl⟩ := slice_form hO6
        have hq : ∀ q, (Value.slice ad j cp).ownBlock = some q → w.heap.size + 2 ≤ q := (fun q hq => by rcases hO.out.2 with ⟨e, _⟩ | ⟨g, cap, cur, e, hbg, _⟩ <;> rw [e] at hq <;> simp [Value.ownBlock] at hq; omega)
        have hB6 := hBa.grown hg6 (by omega) (fun q h => by have := hq q h; omega)
        have hC6 := hCa.grown hg6 hsz (fun q h => hq q h)
        have G6 := hG.out.below hC6 (by omega)
        have R6 := hR.out.below hC6 (by omega)
        have hs6 := hC6.size
        have HO6 := hide (own_keeps hO6 (Keeps.set1 w6 (w.heap.size + 1) 2 (.slice ad6 (j + 1) cp6)) (by omega))
        have HG6 := hide (G6.setP ad6 (j + 1) cp6)
        have HR6 := hide (R6.other (show w.heap.size ≠ w.heap.size + 1 by omega) 2 (.slice ad6 (j + 1) cp6))
        have HB6 := hide (hB6.setCell (p := ⟨w.heap.size + 1, 2, none⟩) (by show w.heap.size ≤ w.heap.size + 1; omega) (.slice ad6 (j + 1) cp6))
        have HS6 : Hid (w.heap.size + 2 ≤ (w6.setCell ⟨w.heap.size + 1, 2, none⟩ (.slice ad6 (j + 1) cp6)).heap.size) := hide (by have := hS.out; simp; omega)
        obtain ⟨-, -, g6⟩ := G6.cells
        have f6 := G6.frozen 2
        clear hO6 hg6 hR1 hOa hBa hCa hC6 hB6 G6 R6 hsz hs6 g2 f2 hq hG hR hO hB hS
        go_wp2_with fail
        refine ⟨⟨j + 1, cp6, ad6, by go_num, by omega, HG6, HR6, ?_, HB6, HS6⟩, by simp [intOf]; omega⟩
        rw [HGJ.out, List.map_append]
        exact HO6
    · have hlt' : ¬ (j : Int) < (M : Int) := by omega
      have hje : j = M := by omega
      subst hje
      have K13 := hG.out
      have K23 := hR.out
      go_wp2_with (first
        | refine wpList_load_gd rfl (.tmp 9) rfl (w.heap.size + 1) rfl K13 ?_
        | (refine wpList_store_gd rfl (.tmp 8) (.tmp 39) rfl w.heap.size rfl rfl K23 ?_; intro w6 k6 kk6))
      refine bodyPost_ret (results_gd rfl _ _ w.heap.size rfl k6) rfl ⟨ad, cp, rfl, own_base (own_keeps hO.out kk6 (by omega)) (by omega), ?_⟩
      exact hB.out.trans ((kk6.mono (Y := fun k => w.heap.size ≤ k) (fun k _ e => by omega)).below hB.out.size (fun k hk e => by omega))

end Go.Proofs.Ytafiaimlmdflnaa
