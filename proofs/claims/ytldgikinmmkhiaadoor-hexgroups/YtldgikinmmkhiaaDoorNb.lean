/-
  The neighbours of a place, one by one: what neighbours hands out. No conditions beyond those that each theorem bears.
-/
import Derived.Test.YtldgikinmmkhiaaDoorHb
namespace Go.Proofs.YtldgikinmmkhiaaDoor
open Go.RowKit Go.Shelf

/-- What is handed out for a neighbour. -/
def NbG (x : Nat) (args : Array Value) (_ : World) : Prop := args = #[.int .i64 (x : Nat)]

/-- What it has captured, and the table. -/
structure NbR (pb bb p n : Nat) (a : Option Addr) (N c : Nat) (W : World) : Prop where
  p : W.cell? ⟨pb, 0, none⟩ = some (.int .i64 p)
  b : Hb W bb n n a N c
  t : Tab W

def NbT (pb bb : Nat) (k : Nat) : Prop := k = 0 ∨ k = pb ∨ k = bb

theorem NbR.keeps {pb bb p n : Nat} {a : Option Addr} {N c : Nat} {X : Nat → Prop} {W W' : World} (h : NbR pb bb p n a N c W) (hk : Keeps X W W') (hX : ∀ k, NbT pb bb k → ¬ X k) : NbR pb bb p n a N c W' :=
  ⟨hk.cell h.p (hX pb (Or.inr (Or.inl rfl))), h.b.keeps hk (hX bb (Or.inr (Or.inr rfl))), h.t.keeps hk (hX 0 (Or.inl rfl))⟩

theorem NbR.lt {pb bb p n : Nat} {a : Option Addr} {N c : Nat} {W : World} (h : NbR pb bb p n a N c W) : ∀ k, NbT pb bb k → k < W.heap.size := by
  rintro k (rfl | rfl | rfl)
  · exact h.t.lt
  · exact World.block_lt_of_cell? W _ h.p
  · exact h.b.lt

theorem neighbours_any (p n : Nat) (a : Option Addr) (N c : Nat) (w : World) : Calls Tryd.prog 52 #[.agg (gdA n n a N c), .int .i64 p] w fun e w' => e = .returned (.func (.func 64) #[] #[.pointer (some ⟨w.heap.size + 1, 0, none⟩), .pointer (some ⟨w.heap.size, 0, none⟩)]) ∧ w' = (w.alloc (.cells (gdA n n a N c) 55)).alloc (.cells #[.int .i64 p] 3) := by
  go_enter Tryd.func52, Tryd.ntmps52
  go_wp2
  go_ret
  exact ⟨rfl, rfl⟩

theorem NbR.new (p n : Nat) (a : Option Addr) (N c : Nat) (w : World) (hT : Tab w) : NbR (w.heap.size + 1) w.heap.size p n a N c ((w.alloc (.cells (gdA n n a N c) 55)).alloc (.cells #[.int .i64 p] 3)) := by
  have B := ((Below.refl w.heap.size w).alloc (Nat.le_refl _) (.cells (gdA n n a N c) 55)).alloc (by simp) (.cells #[.int .i64 p] 3)
  refine ⟨?_, (Hb.new w n n a N c).old _, hT.mono B⟩
  have := new_cell (w.alloc (.cells (gdA n n a N c) 55)) (.int .i64 p) 3
  rwa [World.size_alloc] at this

theorem bnd {px n : Nat} {e x : Int} (h : px < n) (hn : n ≤ 10) (he : -1 ≤ e ∧ e ≤ 1) (hx : (px : Int) + e = x) : -1 ≤ x ∧ x ≤ 10 := by omega

attribute [local irreducible] dtab nbu nbk dx dy
attribute [local go_sem] Oper.semAt_some wide_fn wide_fn0 wide_depth

set_option maxRecDepth 100000 in
set_option maxHeartbeats 8000000 in
theorem nb1_seq (pb bb p n : Nat) (a : Option Addr) (N c : Nat) (hn : 1 ≤ n ∧ n ≤ 10) (hp : p < n * n) :
    SeqQ Tryd.prog 64 #[.pointer (some ⟨pb, 0, none⟩), .pointer (some ⟨bb, 0, none⟩)] NbG (nbs n p) (NbR pb bb p n a N c) (NbT pb bb) 0 := by
  intro l X J Jx W hR hX hJ hJx hY h0
  have HRK : Hid (∀ A B, NbR pb bb p n a N c A → Keeps X A B → NbR pb bb p n a N c B) := hide (fun A B hA hk => hA.keeps hk (fun k hk hx => (hX k hx).1 hk))
  have HRE : Hid (∀ A B, NbR pb bb p n a N c A → Below A.heap.size A B → NbR pb bb p n a N c B) := hide (fun A B hA hk => hA.keeps (X := fun _ => False) (Keeps.of_all hk) (fun _ _ h => h))
  have HJK : Hid (∀ s A B, J s A → Below A.heap.size A B → J s B) := hide (fun s A B hs hk => hJ s A B hs (Keeps.of_all hk))
  have HR := hide hR
  have HY := hide hY
  have HJ0 := hide h0
  have HNS : Hid (nbu n p 0 = []) := hide (by simp [nbu])
  have HNE : Hid (nbs n p = nbu n p 6) := hide rfl
  have HNK : Hid (∀ k, nbu n p (k + 1) = nbu n p k ++ nbk n p k) := hide (nbu_succ n p)
  have HKI : Hid (∀ k, nbk n p k = if 0 ≤ ((p % n : Nat) : Int) + dx k ∧ ((p % n : Nat) : Int) + dx k < n ∧ 0 ≤ ((p / n : Nat) : Int) + dy k ∧ ((p / n : Nat) : Int) + dy k < n then [((((p / n : Nat) : Int) + dy k) * n + (((p % n : Nat) : Int) + dx k)).toNat] else []) := hide (fun k => by rw [nbk])
  have HPR : Hid (∀ k, k < 6 → ∃ t, nbu n p (k + 1) ++ t = nbu n p 6) := hide (fun k hk => by
    have : ∀ d, ∃ t, nbu n p (k + 1) ++ t = nbu n p (k + 1 + d) := by
      intro d
      induction d with
      | zero => exact ⟨[], by simp⟩
      | succ d ih => obtain ⟨t, ht⟩ := ih; exact ⟨t ++ nbk n p (k + 1 + d), by rw [← List.append_assoc, ht, ← Nat.add_assoc, nbu_succ]⟩
    have := this (5 - k)
    rwa [show k + 1 + (5 - k) = 6 by omega] at this)
  have HTR := hR.t.range
  obtain ⟨hpx, hpy, -⟩ := of_place hp
  obtain ⟨q1, q2, q3, q4⟩ := quo_rem (p := p) (n := n)
  have hpb : p ≤ 100 := by
    have := Nat.mul_le_mul hn.2 hn.2
    omega
  have HNN : Hid (n * n ≤ 100) := hide (Nat.mul_le_mul hn.2 hn.2)
  have hwn : ¬ (n : Int) = 0 := by omega
  generalize p % n = px at *
  generalize p / n = py at *
  have hw3 : wrap64 (py : Int) = py := by unfold wrap64; omega
  have HJN : Hid (J (nbu n p 0) W) := hide (by rw [HNS.out]; exact HJ0.out)
  clear hR hY hX h0 hJ hJx HJ0 HNS
  rw [HNE.out] at HY ⊢
  clear HNE
  refine callsIn_of_wp Tryd.func64 rfl trivial ?_ rfl
  simp only [Tryd.ntmps64, List.size_toArray, List.length_cons, List.length_nil, Nat.reduceAdd, Nat.reduceSub, Array.replicate_succ, Array.replicate_zero, List.push_toArray, List.append_toArray, List.nil_append, List.cons_append]
  refine wpIn_wide.2 ?_
  go_wp2_with (refine wpList_load_mid rfl 86 _ rfl 0 0 rfl (ivs dtab) _ HTR Tryd.underlying86 rfl (by rw [ivs_length, show dtab.length = 12 by rw [dtab]; rfl]; exact size86) ?_)
  clear HTR
  go_loopw [9] (fun v wr => ∃ j : Nat, v = .int .i64 j ∧ j ≤ 6 ∧ Hid (J (nbu n p j) wr) ∧ Hid (NbR pb bb p n a N c wr) ∧ Hid (W.heap.size ≤ wr.heap.size)) (fun v _ => 6 - (intOf v).toNat)
  case atStart => exact ⟨0, rfl, by omega, HJN, HR, hide (Nat.le_refl _)⟩
  case round =>
    obtain ⟨j, rfl, hj6, hJr, hRr, hSz⟩ := hrel
    clear HJN HR
    by_cases hj : j < 6
    · have hj' : (j : Int) < 6 := by omega
      have hidx := run_dir j hj
      have hdx := dx_le j
      have hdy := dy_le j
      have HKJ := hide (HKI.out j)
      have HNJ := hide (HNK.out j)
      have HPJ := hide (HPR.out j hj)
      obtain ⟨ex, hex⟩ : ∃ ex, dx j = ex := ⟨_, rfl⟩
      obtain ⟨ey, hey⟩ : ∃ ey, dy j = ey := ⟨_, rfl⟩
      rw [hex, hey] at hidx HKJ
      rw [hex] at hdx
      rw [hey] at hdy
      clear hex hey HKI HNK HPR
      obtain ⟨xx, hxx⟩ : ∃ xx, (px : Int) + ex = xx := ⟨_, rfl⟩
      obtain ⟨yy, hyy⟩ : ∃ yy, (py : Int) + ey = yy := ⟨_, rfl⟩
      have hxb := bnd hpx hn.2 hdx hxx
      have hyb := bnd hpy hn.2 hdy hyy
      rw [hxx, hyy] at HKJ
      obtain ⟨W0, hW0⟩ : ∃ W0, wr.alloc (.cells #[.int .i64 ex, .int .i64 ey] 85) = W0 := ⟨_, rfl⟩
      have B0 : Below wr.heap.size wr W0 := by rw [← hW0]; exact (Below.refl _ _).alloc (Nat.le_refl _) _
      have D0 : Blk W0 wr.heap.size 85 [ex, ey] := by rw [← hW0]; exact Blk.new wr 85 [ex, ey] _ rfl
      have R0 := HRE.out _ _ hRr.out B0
      have d0 := D0.cell (i := 0) (by simp)
      have d1 := D0.cell (i := 1) (by simp)
      have cp := R0.p
      obtain ⟨g0, g1, -⟩ := R0.b.cells
      have HR0 := hide R0
      have HJ0 := hide (HJK.out _ _ _ hJr.out B0)
      have HS0 : Hid (W.heap.size ≤ W0.heap.size) := hide (Nat.le_trans hSz.out B0.size)
      clear hJr hRr hSz R0 B0 D0
      have HDN : Hid (∀ q, NbR pb bb p n a N c (W0.drewN q) ∧ J (nbu n p j) (W0.drewN q) ∧ W.heap.size ≤ (W0.drewN q).heap.size) := hide (fun q => ⟨HRE.out _ _ HR0.out (drewN_below _ _ _), HJK.out _ _ _ HJ0.out (drewN_below _ _ _), Nat.le_trans HS0.out (drewN_below 0 _ _).size⟩)
      go_upto_region 3 with fail
      clear hW0
      go_quiet (fail)
      go_upto_region 4 with fail
      obtain ⟨R1, J1, S1⟩ := HDN.out nq
      obtain ⟨g0, g1, -⟩ := R1.b.cells
      generalize W0.drewN nq = W1 at *
      have HR1 := hide R1
      have HJ1 := hide J1
      have HS1 := hide S1
      clear R1 J1 S1 HR0 HJ0 HS0 HDN d0 d1 cp hidx hxx hyy q1 q2 q3 q4 hw3 hdx hdy
      have NO : Hid (¬ (0 ≤ xx ∧ xx < n ∧ 0 ≤ yy ∧ yy < n) → nbu n p (j + 1) = nbu n p j) := hide (fun h => by rw [HNJ.out, HKJ.out, if_neg h, List.append_nil])
      by_cases x0 : 0 ≤ xx
      rotate_left
      · have HN := hide (NO.out (fun h => x0 h.1))
        clear NO HKJ HNJ HPJ
        go_wp2_with fail
        exact ⟨⟨j + 1, rfl, by omega, hide (by rw [HN.out]; exact HJ1.out), HR1, HS1⟩, by simp only [intOf]; omega⟩
      by_cases x1 : xx < n
      rotate_left
      · have HN := hide (NO.out (fun h => x1 h.2.1))
        clear NO HKJ HNJ HPJ
        go_wp2_with fail
        exact ⟨⟨j + 1, rfl, by omega, hide (by rw [HN.out]; exact HJ1.out), HR1, HS1⟩, by simp only [intOf]; omega⟩
      by_cases y0 : 0 ≤ yy
      rotate_left
      · have HN := hide (NO.out (fun h => y0 h.2.2.1))
        clear NO HKJ HNJ HPJ
        go_wp2_with fail
        exact ⟨⟨j + 1, rfl, by omega, hide (by rw [HN.out]; exact HJ1.out), HR1, HS1⟩, by simp only [intOf]; omega⟩
      by_cases y1 : yy < n
      rotate_left
      · have HN := hide (NO.out (fun h => y1 h.2.2.2))
        clear NO HKJ HNJ HPJ
        go_wp2_with fail
        exact ⟨⟨j + 1, rfl, by omega, hide (by rw [HN.out]; exact HJ1.out), HR1, HS1⟩, by simp only [intOf]; omega⟩
      have HN := hide HKJ.out
      rw [if_pos ⟨x0, x1, y0, y1⟩] at HN
      obtain ⟨xn, rfl⟩ := Int.eq_ofNat_of_zero_le x0
      obtain ⟨yn, rfl⟩ := Int.eq_ofNat_of_zero_le y0
      obtain ⟨A, hA⟩ : ∃ A : Nat, (yn : Int) * (n : Int) = (A : Int) := ⟨yn * n, by simp⟩
      have hQb : A + xn < n * n := by
        have h1 := (place_of (n := n) (x := xn) (y := yn) (by omega) (by omega)).1
        have : A = yn * n := by
          have : ((yn * n : Nat) : Int) = (A : Int) := by rw [← hA]; simp
          omega
        omega
      obtain ⟨Q, hQ⟩ : ∃ Q : Nat, A + xn = Q := ⟨_, rfl⟩
      rw [hQ] at hQb
      have hAQ : (A : Int) + (xn : Int) = (Q : Int) := by omega
      rw [hA, hAQ] at HN
      have HN2 : Hid (nbu n p (j + 1) = nbu n p j ++ [Q]) := hide (by rw [HNJ.out, HN.out]; rfl)
      have HPF : Hid (nbu n p j ++ [Q] <+: nbu n p 6) := hide (by rw [← HN2.out]; exact HPJ.out)
      have hQ100 : Q < 100 := Nat.lt_of_lt_of_le hQb HNN.out
      have hA100 : A < 100 := by omega
      obtain ⟨fn, tmps, assign, body, hy, hRR⟩ := YieldAt.anyD (m' := 0) (HY.out (nbu n p j) Q #[.int .i64 (Q : Nat)] W1 HJ1.out HPF.out rfl HS1.out)
      clear HN NO HKJ HNJ HPJ hQ hQb HJ1 HPF
      refine (wpIn_wide (n := 1)).1 ?_
      gi_wp2
      refine hRR.mono ?_
      rintro e W3 ⟨h3, hk3⟩
      have HR3 := hide (HRK.out _ _ HR1.out hk3)
      have HS3 : Hid (W.heap.size ≤ W3.heap.size) := hide (Nat.le_trans HS1.out hk3.size)
      clear hy hRR hk3 HR1 HS1 g0 g1
      rcases h3 with ⟨rfl, hJ3⟩ | ⟨rfl, hJ3⟩
      · have HJ3 := hide hJ3
        clear hJ3
        gi_wp2
        go_wp2_with fail
        refine ⟨⟨j + 1, rfl, by omega, hide (by rw [HN2.out]; exact HJ3.out), HR3, HS3⟩, ?_⟩
        simp only [intOf]
        omega
      · have HJ3 := hide hJ3
        clear hJ3
        gi_wp2
        go_wp2_with fail
        refine bodyPost_ret (results_none rfl _ _ _) rfl ?_
        exact ⟨⟨_, rfl⟩, HR3.out, .inr HJ3.out⟩
    · obtain rfl : j = 6 := by omega
      go_wp2_with fail
      refine bodyPost_end (results_none rfl _ _ _) rfl ?_
      exact ⟨⟨_, rfl⟩, hRr.out, .inl hJr.out⟩

end Go.Proofs.YtldgikinmmkhiaaDoor
