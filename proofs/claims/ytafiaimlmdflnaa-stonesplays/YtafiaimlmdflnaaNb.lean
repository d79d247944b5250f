/-
  The neighbours of a place, one by one: what Beside hands out. No conditions beyond those that each theorem bears.
-/
import Derived.Test.YtafiaimlmdflnaaRi
namespace Go.Proofs.Ytafiaimlmdflnaa
open Go.RowKit Go.Shelf

/-- What is handed out for a neighbour. -/
def NbG (x : Nat) (args : Array Value) (_ : World) : Prop := args = #[.int .i64 (x : Nat)]

/-- What it has captured, and the directions. -/
structure NbR (gb pb sb db p W H : Nat) (a : Option Addr) (N c : Nat) (V : World) : Prop where
  g : Gd V gb W H a N c
  p : V.cell? ⟨pb, 0, none⟩ = some (.int .i64 p)
  s : V.cell? ⟨sb, 0, none⟩ = some (.slice (some ⟨db, 0, none⟩) 4 4)
  d : Blk V db 37 D4

def NbT (gb pb sb db : Nat) (k : Nat) : Prop := k = gb ∨ k = pb ∨ k = sb ∨ k = db

section
variable {gb pb sb db p W H : Nat} {a : Option Addr} {N c : Nat} {X : Nat → Prop} {V V' : World}
theorem NbR.keeps (h : NbR gb pb sb db p W H a N c V) (hk : Keeps X V V') (hX : ∀ k, NbT gb pb sb db k → ¬ X k) : NbR gb pb sb db p W H a N c V' :=
  ⟨h.g.keeps hk (hX gb (.inl rfl)), hk.cell h.p (hX pb (.inr (.inl rfl))), hk.cell h.s (hX sb (.inr (.inr (.inl rfl)))), h.d.keeps hk (hX db (.inr (.inr (.inr rfl))))⟩
theorem NbR.lt (h : NbR gb pb sb db p W H a N c V) : ∀ k, NbT gb pb sb db k → k < V.heap.size := by
  rintro k (rfl | rfl | rfl | rfl)
  · exact h.g.lt
  · exact World.block_lt_of_cell? V _ h.p
  · exact World.block_lt_of_cell? V _ h.s
  · exact h.d.lt
end

theorem NbR.new (p W H : Nat) (a : Option Addr) (N c db : Nat) (w : World) (hD : Blk w db 37 D4) : NbR w.heap.size (w.heap.size + 1) (w.heap.size + 2) db p W H a N c (((w.alloc (.cells (gdA W H a N c) 24)).alloc (.cells #[.int .i64 p] 3)).alloc (.cells #[.slice (some ⟨db, 0, none⟩) 4 4] 77)) := by
  refine ⟨((Gd.new w W H a N c).old _).old _, ?_, ?_, ((hD.old _).old _).old _⟩
  · have := new_cell (w.alloc (.cells (gdA W H a N c) 24)) (.int .i64 p) 3
    rw [World.size_alloc] at this
    exact old_cell _ this
  · have := new_cell ((w.alloc (.cells (gdA W H a N c) 24)).alloc (.cells #[.int .i64 p] 3)) (.slice (some ⟨db, 0, none⟩) 4 4) 77
    rwa [World.size_alloc, World.size_alloc] at this

theorem bnd {px n : Nat} {e x : Int} (h : px < n) (hn : n ≤ 10) (he : -1 ≤ e ∧ e ≤ 1) (hx : (px : Int) + e = x) : -1 ≤ x ∧ x ≤ 10 := by omega

theorem d4_le (k : Nat) : (-1 ≤ dX D4 k ∧ dX D4 k ≤ 1) ∧ (-1 ≤ dY D4 k ∧ dY D4 k ≤ 1) := by
  match k with
  | 0 => decide
  | 1 => decide
  | 2 => decide
  | 3 => decide
  | k + 4 =>
    have h1 : dX D4 (k + 4) = 0 := by unfold dX; rw [List.getD, List.getElem?_eq_none (by simp only [D4, List.length_cons, List.length_nil]; omega)]; rfl
    have h2 : dY D4 (k + 4) = 0 := by unfold dY; rw [List.getD, List.getElem?_eq_none (by simp only [D4, List.length_cons, List.length_nil]; omega)]; rfl
    rw [h1, h2]; omega

attribute [local irreducible] D4 nbu nbk nb4 dX dY
attribute [local go_sem] Oper.semAt_some wide_fn wide_fn0 wide_depth

set_option maxRecDepth 100000 in
set_option maxHeartbeats 8000000 in
theorem nb1_seq (gb pb sb db p W H : Nat) (a : Option Addr) (N c : Nat) (hW : 1 ≤ W ∧ W ≤ 10) (hH : 1 ≤ H ∧ H ≤ 10) (hp : p < W * H) :
    SeqQ Try.prog 87 #[.pointer (some ⟨sb, 0, none⟩), .pointer (some ⟨pb, 0, none⟩), .pointer (some ⟨gb, 0, none⟩)] NbG (nb4 W H p) (NbR gb pb sb db p W H a N c) (NbT gb pb sb db) 0 := by
  intro l X J Jx V hR hX hJ hJx hY h0
  have HRK : Hid (∀ A B, NbR gb pb sb db p W H a N c A → Keeps X A B → NbR gb pb sb db p W H a N c B) := hide (fun A B hA hk => hA.keeps hk (fun k hk hx => (hX k hx).1 hk))
  have HRE : Hid (∀ A B, NbR gb pb sb db p W H a N c A → Below A.heap.size A B → NbR gb pb sb db p W H a N c B) := hide (fun A B hA hk => hA.keeps (X := fun _ => False) (Keeps.of_all hk) (fun _ _ h => h))
  have HJK : Hid (∀ s A B, J s A → Below A.heap.size A B → J s B) := hide (fun s A B hs hk => hJ s A B hs (Keeps.of_all hk))
  have HR := hide hR
  have HY := hide hY
  have HNE : Hid (nb4 W H p = nbu W H D4 p 4) := hide (by rw [nb4])
  have HNK : Hid (∀ k, nbu W H D4 p (k + 1) = nbu W H D4 p k ++ nbk W H D4 p k) := hide (nbu_succ W H D4 p)
  have HKI : Hid (∀ k, nbk W H D4 p k = if 0 ≤ ((p % W : Nat) : Int) + dX D4 k ∧ ((p % W : Nat) : Int) + dX D4 k < W ∧ 0 ≤ ((p / W : Nat) : Int) + dY D4 k ∧ ((p / W : Nat) : Int) + dY D4 k < H then [((((p / W : Nat) : Int) + dY D4 k) * W + (((p % W : Nat) : Int) + dX D4 k)).toNat] else []) := hide (fun k => by rw [nbk])
  have HPR : Hid (∀ k, k < 4 → nbu W H D4 p (k + 1) <+: nbu W H D4 p 4) := hide (fun k hk => by
    have := nbu_pre W H D4 p (k + 1) (3 - k)
    rwa [show k + 1 + (3 - k) = 4 by omega] at this)
  have cs := hR.s
  obtain ⟨hpx, hpy, -⟩ := of_place hp
  obtain ⟨q1, q2, q3, q4⟩ := quo_rem (p := p) (n := W)
  have HNN : Hid (W * H ≤ 100) := hide (Nat.mul_le_mul hW.2 hH.2)
  have hpb : p ≤ 100 := Nat.le_trans (Nat.le_of_lt hp) HNN.out
  have hwn : ¬ (W : Int) = 0 := by omega
  have HDL : Hid (D4.length = 8) := hide (by rw [D4]; rfl)
  generalize p % W = px at *
  generalize p / W = py at *
  have hw3 : wrap64 (py : Int) = py := by unfold wrap64; omega
  have HJN : Hid (J (nbu W H D4 p 0) V) := hide (by rw [show nbu W H D4 p 0 = [] by simp [nbu]]; exact h0)
  clear hR hY hX h0 hJ hJx
  rw [HNE.out] at HY ⊢
  clear HNE
  refine callsIn_of_wp Try.func87 rfl trivial ?_ rfl
  simp only [Try.ntmps87, List.size_toArray, List.length_cons, List.length_nil, Nat.reduceAdd, Nat.reduceSub, Array.replicate_succ, Array.replicate_zero, List.push_toArray, List.append_toArray, List.nil_append, List.cons_append]
  refine wpIn_wide.2 ?_
  go_wp2_with fail
  clear cs
  go_loopw [11] (fun v wr => ∃ j : Nat, v = .int .i64 j ∧ j ≤ 4 ∧ Hid (J (nbu W H D4 p j) wr) ∧ Hid (NbR gb pb sb db p W H a N c wr) ∧ Hid (V.heap.size ≤ wr.heap.size)) (fun v _ => 4 - (intOf v).toNat)
  case atStart => exact ⟨0, rfl, by omega, HJN, HR, hide (Nat.le_refl _)⟩
  case round =>
    obtain ⟨j, rfl, hj6, hJr, hRr, hSz⟩ := hrel
    clear HJN HR
    by_cases hj : j < 4
    · have hj' : (j : Int) < 4 := by omega
      have HDR := blk_pair hRr.out.d (j := j) (by rw [HDL.out]; omega)
      rw [Nat.mul_comm] at HDR
      obtain ⟨hdx, hdy⟩ := d4_le j
      have HKJ := hide (HKI.out j)
      have HNJ := hide (HNK.out j)
      have HPJ := hide (HPR.out j hj)
      obtain ⟨ex, hex⟩ : ∃ ex, dX D4 j = ex := ⟨_, rfl⟩
      obtain ⟨ey, hey⟩ : ∃ ey, dY D4 j = ey := ⟨_, rfl⟩
      rw [hex, hey] at HDR HKJ
      rw [hex] at hdx
      rw [hey] at hdy
      clear hex hey HKI HNK HPR
      obtain ⟨xx, hxx⟩ : ∃ xx, (px : Int) + ex = xx := ⟨_, rfl⟩
      obtain ⟨yy, hyy⟩ : ∃ yy, (py : Int) + ey = yy := ⟨_, rfl⟩
      have hxb := bnd hpx hW.2 hdx hxx
      have hyb := bnd hpy hH.2 hdy hyy
      rw [hxx, hyy] at HKJ
      obtain ⟨W0, hW0⟩ : ∃ W0, wr.alloc (.cells #[.int .i64 ex, .int .i64 ey] 37) = W0 := ⟨_, rfl⟩
      have B0 : Below wr.heap.size wr W0 := by rw [← hW0]; exact (Below.refl _ _).alloc (Nat.le_refl _) _
      have D0 : Blk W0 wr.heap.size 37 [ex, ey] := by rw [← hW0]; exact Blk.new wr 37 [ex, ey] _ rfl
      have R0 := HRE.out _ _ hRr.out B0
      have d0 := D0.cell (i := 0) (by simp)
      have d1 := D0.cell (i := 1) (by simp)
      have cp := R0.p
      obtain ⟨g0, g1, -⟩ := R0.g.cells
      have HR0 := hide R0
      have HJ0 := hide (HJK.out _ _ _ hJr.out B0)
      have HS0 : Hid (V.heap.size ≤ W0.heap.size) := hide (Nat.le_trans hSz.out B0.size)
      clear hJr hRr hSz R0 B0 D0
      have HDN : Hid (∀ q, NbR gb pb sb db p W H a N c (W0.drewN q) ∧ J (nbu W H D4 p j) (W0.drewN q) ∧ V.heap.size ≤ (W0.drewN q).heap.size) := hide (fun q => ⟨HRE.out _ _ HR0.out (drewN_below _ _ _), HJK.out _ _ _ HJ0.out (drewN_below _ _ _), Nat.le_trans HS0.out (drewN_below 0 _ _).size⟩)
      go_upto_region 3 with (refine wpList_load_mid rfl 37 _ rfl db (j * 2) rfl [.int .i64 ex, .int .i64 ey] _ HDR Try.underlying37 rfl size37 ?_)
      clear hW0 HDR
      go_quiet (fail)
      go_upto_region 4 with fail
      obtain ⟨R1, J1, S1⟩ := HDN.out nq
      have hg := R1.g
      generalize W0.drewN nq = W1 at *
      have HR1 := hide R1
      have HJ1 := hide J1
      have HS1 := hide S1
      have HC := hide (inside_any W H a N c xx yy W1)
      clear R1 J1 S1 HR0 HJ0 HS0 HDN d0 d1 cp g0 g1 hxx hyy q1 q2 q3 q4 hw3 hdx hdy
      have NO : Hid (¬ (0 ≤ xx ∧ xx < W ∧ 0 ≤ yy ∧ yy < H) → nbu W H D4 p (j + 1) = nbu W H D4 p j) := hide (fun h => by rw [HNJ.out, HKJ.out, if_neg h, List.append_nil])
      by_cases hin : 0 ≤ xx ∧ xx < W ∧ 0 ≤ yy ∧ yy < H
      rotate_left
      · have HN := hide (NO.out hin)
        rw [decide_eq_false hin] at HC
        clear NO HKJ HNJ HPJ hin
        go_wp2_with (first | (refine wpList_load_gd rfl (.tmp 3) rfl gb rfl hg ?_) | fail)
        refine HC.out.mono ?_
        rintro e W2 ⟨rfl, hb2⟩
        have HR2 := hide (HRE.out _ _ HR1.out hb2)
        have HJ2 := hide (HJK.out _ _ _ HJ1.out hb2)
        have HS2 : Hid (V.heap.size ≤ W2.heap.size) := hide (Nat.le_trans HS1.out hb2.size)
        clear hb2 hg HC HR1 HJ1 HS1
        go_wp2_with fail
        exact ⟨⟨j + 1, rfl, by omega, hide (by rw [HN.out]; exact HJ2.out), HR2, HS2⟩, by simp only [intOf]; omega⟩
      have HN := hide HKJ.out
      rw [if_pos hin] at HN
      rw [decide_eq_true hin] at HC
      obtain ⟨x0, x1, y0, y1⟩ := hin
      obtain ⟨xn, rfl⟩ := Int.eq_ofNat_of_zero_le x0
      obtain ⟨yn, rfl⟩ := Int.eq_ofNat_of_zero_le y0
      obtain ⟨A, hA⟩ : ∃ A : Nat, (yn : Int) * (W : Int) = (A : Int) := ⟨yn * W, by simp⟩
      have hQb : A + xn < W * H := by
        have h1 := (place_of (W := W) (H := H) (x := xn) (y := yn) (by omega) (by omega)).1
        have : A = yn * W := by
          have : ((yn * W : Nat) : Int) = (A : Int) := by rw [← hA]; simp
          omega
        omega
      obtain ⟨Q, hQ⟩ : ∃ Q : Nat, A + xn = Q := ⟨_, rfl⟩
      rw [hQ] at hQb
      have hAQ : (A : Int) + (xn : Int) = (Q : Int) := by omega
      rw [hA, hAQ] at HN
      have HN2 : Hid (nbu W H D4 p (j + 1) = nbu W H D4 p j ++ [Q]) := hide (by rw [HNJ.out, HN.out]; rfl)
      have HPF : Hid (nbu W H D4 p j ++ [Q] <+: nbu W H D4 p 4) := hide (by rw [← HN2.out]; exact HPJ.out)
      have hQ100 : Q < 100 := Nat.lt_of_lt_of_le hQb HNN.out
      have hA100 : A < 100 := by omega
      clear HN NO HKJ HNJ HPJ hQ hQb
      refine (wpIn_wide (n := 1)).1 ?_
      gi_wp2_with (first | (refine wideIn_load_gd rfl (.tmp 3) rfl gb rfl hg ?_) | fail)
      refine (callsIn_wide.2 HC.out).mono ?_
      rintro e W2 ⟨rfl, hb2⟩
      have HR2 := hide (HRE.out _ _ HR1.out hb2)
      have HJ2 := hide (HJK.out _ _ _ HJ1.out hb2)
      have HS2 : Hid (V.heap.size ≤ W2.heap.size) := hide (Nat.le_trans HS1.out hb2.size)
      clear hb2 hg HC HR1 HJ1 HS1
      obtain ⟨g0, g1, -⟩ := HR2.out.g.cells
      obtain ⟨fn, tmps, assign, body, hy, hRR⟩ := YieldAt.anyD (m' := 0) (HY.out (nbu W H D4 p j) Q #[.int .i64 (Q : Nat)] W2 HJ2.out HPF.out rfl HS2.out)
      clear HJ2 HPF
      gi_wp2_with fail
      refine hRR.mono ?_
      rintro e W3 ⟨h3, hk3⟩
      have HR3 := hide (HRK.out _ _ HR2.out hk3)
      have HS3 : Hid (V.heap.size ≤ W3.heap.size) := hide (Nat.le_trans HS2.out hk3.size)
      clear hy hRR hk3 HR2 HS2 g0 g1
      rcases h3 with ⟨rfl, hJ3⟩ | ⟨rfl, hJ3⟩
      · have HJ3 := hide hJ3
        clear hJ3
        gi_wp2
        go_wp2_with fail
        refine ⟨⟨j + 1, rfl, by omega, hide (by rw [HN2.out]; exact HJ3.out), HR3, HS3⟩, ?_⟩
        simp only [intOf]
        omega
      · have HJ3 := hide hJ3
        clear hJ3
        gi_wp2
        go_wp2_with fail
        refine bodyPost_ret (results_none rfl _ _ _) rfl ?_
        exact ⟨⟨_, rfl⟩, HR3.out, .inr HJ3.out⟩
    · obtain rfl : j = 4 := by omega
      go_wp2_with fail
      refine bodyPost_end (results_none rfl _ _ _) rfl ?_
      exact ⟨⟨_, rfl⟩, hRr.out, .inl hJr.out⟩

end Go.Proofs.Ytafiaimlmdflnaa
