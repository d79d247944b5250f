/-
  Chess: the steps of a piece from a place on, counted; the tables. No conditions beyond those that each theorem bears.
  Chess: what reach hands out, walked. No conditions beyond those that each theorem bears.
-/
import Derived.Test.YtdmlamnonbmboaaGreatDoorV07
import Derived.Test.YtdmlamnonbmboaaGreatDoorV09
namespace Go.Proofs.YtdmlamnonbmboaaGreatDoor
open Go.RowKit Go.Shelf

/-- Which step leads to a place. -/
def mz (t i : Nat) (x y : Int) : Nat := ((List.range 9).takeWhile fun j => !(rX t i j == x && rY t i j == y)).length
theorem tab_mz : ((List.range 64).all fun t => (List.range 16).all fun i => (List.range 9).all fun j => Nat.beq (mz t i (rX t i j) (rY t i j)) j) = true := by decide +kernel
theorem mz_at {t i j : Nat} (ht : t < 64) (hi : i < 16) (hj : j < 9) : mz t i (rX t i j) (rY t i j) = j := Nat.eq_of_beq_eq_true (allN (allN (all64 tab_mz ht) hi) hj)
theorem rX_succ (t i j : Nat) : rX t i j + sX i = rX t i (j + 1) := by
  unfold rX
  rw [Int.natCast_succ, Int.add_mul ((j : Int) + 1) 1, Int.one_mul]; omega
theorem rY_succ (t i j : Nat) : rY t i j + sY i = rY t i (j + 1) := by
  unfold rY
  rw [Int.natCast_succ, Int.add_mul ((j : Int) + 1) 1, Int.one_mul]; omega
theorem rX_zero (t i : Nat) : ((t % 8 : Nat) : Int) + sX i = rX t i 0 := by unfold rX; simp
theorem rY_zero (t i : Nat) : ((t / 8 : Nat) : Int) + sY i = rY t i 0 := by unfold rY; simp
theorem tab_bd : ((List.range 16).all fun i => decide (-2 ≤ sX i ∧ sX i ≤ 2 ∧ -2 ≤ sY i ∧ sY i ≤ 2)) = true := by decide +kernel
theorem sXY_bd {i : Nat} (hi : i < 16) : -2 ≤ sX i ∧ sX i ≤ 2 ∧ -2 ≤ sY i ∧ sY i ≤ 2 := by simpa using allN tab_bd hi
theorem rXY_bd {t i j : Nat} (ht : t < 64) (hi : i < 16) (hj : j ≤ rl t i) : -2 ≤ rX t i j ∧ rX t i j ≤ 9 ∧ -2 ≤ rY t i j ∧ rY t i j ≤ 9 := by
  have hb := sXY_bd hi
  cases j with
  | zero => rw [← rX_zero, ← rY_zero]; omega
  | succ j =>
    rw [← rX_succ, ← rY_succ]
    have h := ins_iff (j := j) ht hi (by have := rl_le ht hi; omega)
    rw [decide_eq_true (by omega : j < rl t i)] at h
    simp only [ins, Bool.and_eq_true, decide_eq_true_eq] at h
    omega

/-- The table of steps. -/
def dS : List Int := [1, 0, 0, 1, -1, 0, 0, -1, 1, 1, -1, 1, 1, -1, -1, -1, 1, 2, 2, 1, 2, -1, 1, -2, -1, -2, -2, -1, -2, 1, -1, 2]
theorem tab_dS : ((List.range 16).all fun i => decide (dS.getD (i * 2) 0 = sX i ∧ dS.getD (i * 2 + 1) 0 = sY i)) = true := by decide +kernel
theorem dS_at {i : Nat} (hi : i < 16) : dS.getD (i * 2) 0 = sX i ∧ dS.getD (i * 2 + 1) 0 = sY i := by simpa using allN tab_dS hi

def TabS (w : World) : Prop := ∀ i, i < 32 → w.cell? ⟨1, i, none⟩ = some (.int .i64 (dS.getD i 0))
theorem TabS.lt {w : World} (h : TabS w) : 1 < w.heap.size := World.block_lt_of_cell? w _ (h 0 (by omega))
theorem TabS.mono {w w' : World} (h : TabS w) (hb : Below w.heap.size w w') : TabS w' := fun i hi => (hb.cell (p := ⟨1, i, none⟩) h.lt).trans (h i hi)
theorem TabS.keeps {X : Nat → Prop} {w w' : World} (h : TabS w) (hk : Keeps X w w') (hX : ¬ X 1) : TabS w' := fun i hi => hk.cell (h i hi) hX
theorem TabS.at {w : World} (h : TabS w) {i : Nat} (hi : i < 16) : w.cell? ⟨1, i * 2, none⟩ = some (.int .i64 (sX i)) ∧ w.cell? ⟨1, i * 2 + 1, none⟩ = some (.int .i64 (sY i)) := by
  obtain ⟨h1, h2⟩ := dS_at hi
  exact ⟨by rw [← h1]; exact h _ (by omega), by rw [← h2]; exact h _ (by omega)⟩

/-- What is handed out for a place. -/
def RcG (q : Nat) (args : Array Value) (_ : World) : Prop := args = #[.int .i64 (q : Nat)]

/-- What reach has captured, and the table. -/
structure RcR (xb fb eb lb : Nat) (x : Int) (t : Nat) (a : Option Addr) (c : Nat) (Z : List Int) (W : World) : Prop where
  x : W.cell? ⟨xb, 0, none⟩ = some (.int .i64 x)
  f : W.cell? ⟨fb, 0, none⟩ = some (.int .i64 t)
  e : W.cell? ⟨eb, 0, none⟩ = some (.func (.func 136) #[] #[.pointer (some ⟨lb, 0, none⟩)])
  l : W.cell? ⟨lb, 0, none⟩ = some (.slice a 64 c)
  z : Rd W a 64 c Z
  s : TabS W

def RcT (xb fb eb lb : Nat) (a : Option Addr) (k : Nat) : Prop := k = 1 ∨ k = xb ∨ k = fb ∨ k = eb ∨ k = lb ∨ ∃ off, a = some ⟨k, off, none⟩

theorem RcR.keeps {xb fb eb lb : Nat} {x : Int} {t : Nat} {a : Option Addr} {c : Nat} {Z : List Int} {X : Nat → Prop} {W W' : World} (h : RcR xb fb eb lb x t a c Z W) (hk : Keeps X W W') (hX : ∀ k, RcT xb fb eb lb a k → ¬ X k) : RcR xb fb eb lb x t a c Z W' :=
  ⟨hk.cell h.x (hX xb (by unfold RcT; simp)), hk.cell h.f (hX fb (by unfold RcT; simp)), hk.cell h.e (hX eb (by unfold RcT; simp)), hk.cell h.l (hX lb (by unfold RcT; simp)),
    h.z.keeps hk (fun b off e => hX b (by unfold RcT; simp [e])), h.s.keeps hk (hX 1 (by unfold RcT; simp))⟩

theorem empty1_any (lb : Nat) (a : Option Addr) (c : Nat) (Z : List Int) (q : Nat) (hq : q < 64) (w : World) (hl : w.cell? ⟨lb, 0, none⟩ = some (.slice a 64 c)) (hz : Rd w a 64 c Z) :
    Calls Tryz.prog 136 #[.int .i64 (q : Nat), .pointer (some ⟨lb, 0, none⟩)] w fun e w' => e = .returned (.bool (zg Z q == 0)) ∧ w' = w := by
  obtain ⟨b, off, rfl, hc⟩ := hz.cells (by omega)
  have hz0 := hc q hq
  have hc64 := hz.cap
  have hmx := hz.max
  unfold maxLen at hmx
  unfold zg
  clear hc hz
  generalize Z.getD q 0 = z at *
  go_enter Tryz.func136, Tryz.ntmps136
  go_wp2
  go_ret
  exact ⟨rfl, rfl⟩

/-- The places of the first steps. -/
def rcU (Z : List Int) (x : Int) (t m : Nat) : List Nat := ((List.range m).map (sB x + ·)).flatMap fun i => vis Z (far x) (R t i)
theorem rcU_zero (Z : List Int) (x : Int) (t : Nat) : rcU Z x t 0 = [] := rfl
theorem rcU_all (Z : List Int) (x : Int) (t : Nat) : rcU Z x t (sE x - sB x) = rch Z x t := rfl
theorem rcU_succ (Z : List Int) (x : Int) (t m : Nat) : rcU Z x t (m + 1) = rcU Z x t m ++ vis Z (far x) (R t (sB x + m)) := by
  unfold rcU
  rw [List.range_succ, List.map_append, List.flatMap_append]; simp
theorem rcU_pre (Z : List Int) (x : Int) (t : Nat) {m n : Nat} (h : m ≤ n) : rcU Z x t m <+: rcU Z x t n := by
  induction n with
  | zero => obtain rfl : m = 0 := by omega
            exact List.prefix_refl _
  | succ n ih =>
    by_cases e : m = n + 1
    · subst e; exact List.prefix_refl _
    · refine (ih (by omega)).trans ?_
      rw [rcU_succ]; exact List.prefix_append _ _

theorem R_take_succ {t i j : Nat} (hj : j < rl t i) : (R t i).take (j + 1) = (R t i).take j ++ [rP t i j] := by
  have h : j < (R t i).length := by rw [R_len]; exact hj
  rw [List.take_succ_eq_append_getElem h]
  congr 1
  have := R_get hj
  rw [List.getElem?_eq_getElem h] at this
  simpa using this

theorem R_drop {t i j : Nat} (hj : j < rl t i) : (R t i).drop j = rP t i j :: (R t i).drop (j + 1) := by
  have h : j < (R t i).length := by rw [R_len]; exact hj
  rw [List.drop_eq_getElem_cons h]
  congr 1
  have := R_get hj
  rw [List.getElem?_eq_getElem h] at this
  simpa using this

/-- All so far can be gone over. -/
def Fre (Z : List Int) (x : Int) (t i j : Nat) : Prop := ∀ a ∈ (R t i).take j, far x = true ∧ zg Z a = 0

theorem vis_on {Z : List Int} {x : Int} {t i j : Nat} (hF : Fre Z x t i j) (hj : j < rl t i) : (R t i).take j ++ [rP t i j] <+: vis Z (far x) (R t i) := by
  rw [vis_take Z (far x) j _ hF, R_drop hj]
  simp only [vis]
  rw [List.prefix_append_right_inj]
  exact ⟨_, rfl⟩
theorem vis_stop {Z : List Int} {x : Int} {t i j : Nat} (hF : Fre Z x t i j) (hj : j < rl t i) (h : ¬ (far x = true ∧ zg Z (rP t i j) = 0)) : vis Z (far x) (R t i) = (R t i).take j ++ [rP t i j] := by
  rw [vis_take Z (far x) j _ hF, R_drop hj]
  simp only [vis]
  rw [if_neg h]
theorem vis_end {Z : List Int} {x : Int} {t i : Nat} (hF : Fre Z x t i (rl t i)) : vis Z (far x) (R t i) = (R t i).take (rl t i) := by
  rw [vis_take Z (far x) _ _ hF, List.drop_eq_nil_of_le (by rw [R_len]; omega)]
  simp [vis]
theorem Fre_succ {Z : List Int} {x : Int} {t i j : Nat} (hF : Fre Z x t i j) (hj : j < rl t i) (h : far x = true ∧ zg Z (rP t i j) = 0) : Fre Z x t i (j + 1) := by
  intro a ha
  rw [R_take_succ hj, List.mem_append, List.mem_singleton] at ha
  rcases ha with ha | rfl
  · exact hF a ha
  · exact h

end Go.Proofs.YtdmlamnonbmboaaGreatDoor

namespace Go.Proofs.YtdmlamnonbmboaaGreatDoor
open Go.RowKit Go.Shelf

theorem sBE {x : Int} (hx : KX x) : sB x ≤ sE x ∧ sE x ≤ 16 := by
  rcases hx with rfl | rfl | rfl | rfl | rfl | rfl | rfl | rfl | rfl | rfl | rfl | rfl <;> decide

attribute [local irreducible] dS rX rY rP R rl vis rcU far sB sE sX sY mz ins
attribute [local go_sem] Oper.semAt_some wide_fn wide_fn0 wide_depth

set_option maxRecDepth 100000 in
set_option maxHeartbeats 8000000 in
theorem reach1_seq (xb fb eb lb : Nat) (x : Int) (t : Nat) (a : Option Addr) (c : Nat) (Z : List Int) (hx : KX x) (ht : t < 64) :
    SeqO Tryz.prog 111 #[.pointer (some ⟨xb, 0, none⟩), .pointer (some ⟨fb, 0, none⟩), .pointer (some ⟨eb, 0, none⟩)] RcG (rch Z x t) (RcR xb fb eb lb x t a c Z) (RcT xb fb eb lb a) := by
  intro l J Jx N0 W O0 hR hN hC hY h0
  have HT0 : Hid (∀ k, RcT xb fb eb lb a k → ¬ O0 k) := hide (fun k hk h => ((hC.lt _ _ _ h0) k h).2 hk)
  have HRK : Hid (∀ W', Keeps O0 W W' → RcR xb fb eb lb x t a c Z W') := hide (fun W' hk => hR.keeps hk HT0.out)
  have HJK : Hid (∀ s A B, (∃ O, J O s A ∧ ∀ k, k < W.heap.size → O k → O0 k) → Below A.heap.size A B → ∃ O, J O s B ∧ ∀ k, k < W.heap.size → O k → O0 k) := hide (fun s A B ⟨O, h1, h2⟩ hb => ⟨O, hC.keep _ _ _ _ h1 (Keeps.of_all hb), h2⟩)
  have HY := hide hY
  have HN := hide hN
  have HJ0 : Hid (∃ O, J O (rcU Z x t 0) W ∧ ∀ k, k < W.heap.size → O k → O0 k) := hide ⟨O0, by rw [rcU_zero]; exact h0, fun _ _ h => h⟩
  have HST := hide (stretch_any x hx)
  have hxb : -6 ≤ x ∧ x ≤ 6 := by unfold KX at hx; omega
  have HGF := hide (goesFar_any x hxb.1 hxb.2)
  have HEM := hide (fun q hq w hl hz => empty1_any lb a c Z q hq w hl hz)
  have HIN := hide inside_any
  have HII := hide (fun i j (hi : i < 16) (hj : j < 8) => ins_iff (t := t) ht hi hj)
  have HRL := hide (fun i (hi : i < 16) => rl_le (t := t) ht hi)
  have HRP := hide (fun i j (hi : i < 16) (hj : j < rl t i) => rP_at (t := t) ht hi hj)
  have HXB := hide (fun i j (hi : i < 16) (hj : j ≤ rl t i) => rXY_bd (t := t) ht hi hj)
  have HMZ := hide (fun i j (hi : i < 16) (hj : j < 9) => mz_at (t := t) ht hi hj)
  have HE16 : Hid (sB x ≤ sE x ∧ sE x ≤ 16) := hide (sBE hx)
  have HAL : Hid (rcU Z x t (sE x - sB x) = rch Z x t) := hide (rcU_all Z x t)
  obtain ⟨XS, hXS⟩ : ∃ XS, rch Z x t = XS := ⟨_, rfl⟩
  rw [hXS] at HY HAL ⊢
  clear hXS
  have HPX : Hid (∀ m, m ≤ sE x - sB x → rcU Z x t m <+: XS) := hide (fun m hm => by rw [← HAL.out]; exact rcU_pre Z x t hm)
  have cx := hR.x
  clear hR hN hC hY h0 hx
  have hb16 := HE16.out
  refine callsIn_of_wp Tryz.func111 rfl trivial ?_ rfl
  simp only [Tryz.ntmps111, List.size_toArray, List.length_cons, List.length_nil, Nat.reduceAdd, Nat.reduceSub, Array.replicate_succ, Array.replicate_zero, List.push_toArray, List.append_toArray, List.nil_append, List.cons_append]
  refine wpIn_wide.2 ?_
  obtain ⟨BB, hBB⟩ : ∃ BB, sB x = BB := ⟨_, rfl⟩
  obtain ⟨EE, hEE⟩ : ∃ EE, sE x = EE := ⟨_, rfl⟩
  rw [hBB, hEE] at HST hb16 HAL HPX
  have HUS : Hid (∀ m, rcU Z x t (m + 1) = rcU Z x t m ++ vis Z (far x) (R t (BB + m))) := hide (fun m => by rw [← hBB]; exact rcU_succ Z x t m)
  clear hBB hEE HE16
  go_wp2_with (refine (HST.out _).mono ?_; rintro e w1 ⟨rfl, hw⟩; subst w1)
  clear HST cx
  go_loopw [7] (fun v wr => ∃ m : Nat, v = .int .i64 ((BB + m : Nat) : Int) ∧ BB + m ≤ EE ∧ Hid (∃ O, J O (rcU Z x t m) wr ∧ ∀ k, k < W.heap.size → O k → O0 k) ∧ Hid (Keeps O0 W wr)) (fun v _ => EE - (intOf v).toNat)
  case atStart => exact ⟨0, rfl, by omega, HJ0, hide (Keeps.refl _ _)⟩
  case round =>
    obtain ⟨m, rfl, hm, hJr, hK⟩ := hrel
    clear HJ0
    obtain ⟨i, hi⟩ : ∃ i, BB + m = i := ⟨_, rfl⟩
    rw [hi] at hm ⊢
    by_cases hlt : i < EE
    · have hlt' : (i : Int) < EE := by omega
      have hi16 : i < 16 := by omega
      have HUM : Hid (rcU Z x t (m + 1) = rcU Z x t m ++ vis Z (far x) (R t i)) := hide (by rw [← hi]; exact HUS.out m)
      have HPM : Hid (rcU Z x t (m + 1) <+: XS) := hide (HPX.out (m + 1) (by omega))
      have HI := hide hi
      clear hi
      have RR := HRK.out _ hK.out
      obtain ⟨c1, c2⟩ := RR.s.at hi16
      have cf := RR.f
      have HRZ : Hid (rX t i 0 = ((t % 8 : Nat) : Int) + sX i ∧ rY t i 0 = ((t / 8 : Nat) : Int) + sY i) := hide ⟨(rX_zero t i).symm, (rY_zero t i).symm⟩
      have hsb := sXY_bd hi16
      have HSX : Hid (∀ j, rX t i j + sX i = rX t i (j + 1)) := hide (rX_succ t i)
      have HSY : Hid (∀ j, rY t i j + sY i = rY t i (j + 1)) := hide (rY_succ t i)
      obtain ⟨ex, hex⟩ : ∃ ex, sX i = ex := ⟨_, rfl⟩
      obtain ⟨ey, hey⟩ : ∃ ey, sY i = ey := ⟨_, rfl⟩
      rw [hex] at hsb c1 HRZ HSX
      rw [hey] at hsb c2 HRZ HSY
      clear hex hey RR
      go_upto_region 4 with fail
      go_quiet (fail)
      go_upto_region 5 with fail
      have B1 : Below wr.heap.size wr (wr.drewN nq) := drewN_below _ _ _
      have K1 : Keeps O0 W (wr.drewN nq) := hK.out.trans (Keeps.of_all B1)
      have HJ1 := hide (HJK.out _ _ _ hJr.out B1)
      have cf := (HRK.out _ K1).f
      have HK1 := hide K1
      clear B1 K1 hJr hK c1 c2
      generalize wr.drewN nq = w1 at *
      go_quiet (fail)
      have B2 : Below w1.heap.size w1 (w1.drewN nq) := drewN_below _ _ _
      have HJ2 := hide (HJK.out _ _ _ HJ1.out B2)
      have HK2 : Hid (Keeps O0 W (w1.drewN nq)) := hide (HK1.out.trans (Keeps.of_all B2))
      clear B2 HJ1 HK1 cf
      generalize w1.drewN nq = w2 at *
      have z1 : (t : Int) % 8 + ex = rX t i 0 := by rw [HRZ.out.1]; omega
      have z2 : (t : Int) / 8 + ey = rY t i 0 := by rw [HRZ.out.2]; omega
      rw [z1, z2]
      clear z1 z2 HRZ
      have HJ3 : Hid (∃ O, J O (rcU Z x t m ++ (R t i).take 0) w2 ∧ ∀ k, k < W.heap.size → O k → O0 k) := hide (by rw [List.take_zero, List.append_nil]; exact HJ2.out)
      clear HJ2
      have HF0 : Hid (Fre Z x t i 0) := hide (by intro a ha; simp at ha)
      have HRLI := HRL.out i hi16
      go_wp2_with fail
      go_loopw [10, 11] (fun v u ws => ∃ j : Nat, v = .int .i64 (rX t i j) ∧ u = .int .i64 (rY t i j) ∧ j ≤ rl t i ∧ Hid (Fre Z x t i j) ∧ Hid (∃ O, J O (rcU Z x t m ++ (R t i).take j) ws ∧ ∀ k, k < W.heap.size → O k → O0 k) ∧ Hid (Keeps O0 W ws)) (fun v u _ => 9 - mz t i (intOf v) (intOf u))
      case atStart => exact ⟨0, rfl, rfl, by omega, HF0, HJ3, HK2⟩
      case round =>
        obtain ⟨j, rfl, rfl, hj, hF, hJs, hKs⟩ := hrel
        clear HJ3 HK2 HF0
        have hb := HXB.out i j hi16 hj
        have HIJ := hide (HII.out i j hi16 (by omega))
        have HMJ := hide (HMZ.out i j hi16 (by omega))
        by_cases hjl : j < rl t i
        · have HINT : Hid (∀ w, Calls Tryz.prog 113 #[.int .i64 (rX t i j), .int .i64 (rY t i j)] w fun e w' => e = .returned (.bool true) ∧ w' = w) := hide (fun w => by
            have h := HIN.out (rX t i j) (rY t i j) w
            rwa [HIJ.out, decide_eq_true hjl] at h)
          obtain ⟨hq64, hq⟩ := HRP.out i j hi16 hjl
          have hsx := HSX.out j
          have hsy := HSY.out j
          have hb1 := HXB.out i (j + 1) hi16 (by omega)
          have HMJ1 := hide (HMZ.out i (j + 1) hi16 (by omega))
          have HPF : Hid ((rcU Z x t m ++ (R t i).take j) ++ [rP t i j] <+: XS) := hide (by
            refine List.IsPrefix.trans ?_ HPM.out
            rw [HUM.out, List.append_assoc, List.prefix_append_right_inj]
            exact vis_on hF.out hjl)
          have HNXT : Hid (far x = true ∧ zg Z (rP t i j) = 0 → Fre Z x t i (j + 1)) := hide (fun h => Fre_succ hF.out hjl h)
          have HTK : Hid ((rcU Z x t m ++ (R t i).take j) ++ [rP t i j] = rcU Z x t m ++ (R t i).take (j + 1)) := hide (by rw [R_take_succ hjl, List.append_assoc])
          have HSTP : Hid (¬ (far x = true ∧ zg Z (rP t i j) = 0) → (rcU Z x t m ++ (R t i).take j) ++ [rP t i j] = rcU Z x t (m + 1)) := hide (fun h => by rw [HUM.out, vis_stop hF.out hjl h, List.append_assoc])
          clear HIJ hF
          obtain ⟨X, hX⟩ : ∃ X, rX t i j = X := ⟨_, rfl⟩
          obtain ⟨Y, hY⟩ : ∃ Y, rY t i j = Y := ⟨_, rfl⟩
          obtain ⟨X1, hX1⟩ : ∃ X1, rX t i (j + 1) = X1 := ⟨_, rfl⟩
          obtain ⟨Y1, hY1⟩ : ∃ Y1, rY t i (j + 1) = Y1 := ⟨_, rfl⟩
          obtain ⟨q, hqq⟩ : ∃ q, rP t i j = q := ⟨_, rfl⟩
          rw [hX, hY] at HINT hq hb HMJ ⊢
          rw [hX, hX1] at hsx
          rw [hY, hY1] at hsy
          rw [hX1, hY1] at hb1 HMJ1
          rw [hqq] at hq64 hq HPF HNXT HTK HSTP
          have HX1 := hide hX1
          have HY1 := hide hY1
          clear hX hY hX1 hY1 hqq
          obtain ⟨O, hJO, hOm⟩ := hJs.out
          have HOM := hide hOm
          obtain ⟨fn, tmps, assign, body, hy, hRR⟩ := YieldAt.anyD (m' := 0) (HY.out O _ q #[.int .i64 (q : Nat)] wr hJO HPF.out rfl (Nat.le_trans HN.out hKs.out.size))
          clear hOm hJO hJs HPF
          have hq' : Y * 8 + X = (q : Int) := hq.symm
          clear hq
          go_upto_region 9 with (refine (HINT.out _).mono ?_; rintro e ws1 ⟨rfl, hw⟩; subst ws1)
          refine (wpIn_wide (n := 1)).1 ?_
          gi_wp2
          refine hRR.mono ?_
          rintro e W3 ⟨hk3, O', hO', h3⟩
          have HK3 : Hid (Keeps O0 W W3) := hide ⟨hk3.os.trans hKs.out.os, hk3.tape.trans hKs.out.tape, hk3.output.trans hKs.out.output, Nat.le_trans hKs.out.size hk3.size, fun i hi hx => (hk3.block i (Nat.lt_of_lt_of_le hi hKs.out.size) (fun h => hx (HOM.out i hi h))).trans (hKs.out.block i hi hx)⟩
          have HO3 : Hid (∀ k, k < W.heap.size → O' k → O0 k) := hide (fun k hk h => HOM.out k hk (hO' k (Nat.lt_of_lt_of_le hk hKs.out.size) h))
          clear hy hRR hKs hk3 hO' HOM
          rcases h3 with ⟨rfl, hJ3⟩ | ⟨rfl, hJ3⟩
          · have HJ3 : Hid (∃ O, J O ((rcU Z x t m ++ (R t i).take j) ++ [q]) W3 ∧ ∀ k, k < W.heap.size → O k → O0 k) := hide ⟨O', hJ3, HO3.out⟩
            clear hJ3 HO3
            have RR := HRK.out _ HK3.out
            have cx := RR.x
            have ce := RR.e
            have HEQ := hide (HEM.out q hq64 W3 RR.l RR.z)
            clear RR
            have HGX := hide (HGF.out W3)
            gi_wp2
            cases hfar : far x with
            | false =>
              have HE : Hid (∃ O, J O (rcU Z x t (m + 1)) W3 ∧ ∀ k, k < W.heap.size → O k → O0 k) := hide (by rw [← HSTP.out (fun h => by rw [hfar] at h; exact absurd h.1 (by simp))]; exact HJ3.out)
              rw [hfar] at HGX
              clear HSTP HNXT HTK HJ3 hfar HEQ
              go_wp2_with (refine HGX.out.mono ?_; rintro e w5 ⟨rfl, hw⟩; subst w5)
              exact ⟨⟨m + 1, by have := HI.out; congr 1; omega, by have := HI.out; omega, HE, HK3⟩, by simp only [intOf]; omega⟩
            | true =>
              rw [hfar] at HGX
              by_cases hz : zg Z q = 0
              · have HF1 := hide (HNXT.out ⟨hfar, hz⟩)
                have HE : Hid (∃ O, J O (rcU Z x t m ++ (R t i).take (j + 1)) W3 ∧ ∀ k, k < W.heap.size → O k → O0 k) := hide (by rw [← HTK.out]; exact HJ3.out)
                rw [hz] at HEQ
                clear HSTP HNXT HTK HJ3 hfar hz
                go_wp2_with (first | (refine HGX.out.mono ?_; rintro e w5 ⟨rfl, hw⟩; subst w5) | (refine HEQ.out.mono ?_; rintro e w5 ⟨rfl, hw⟩; subst w5))
                refine ⟨⟨j + 1, by rw [HX1.out], by rw [HY1.out], by omega, HF1, HE, HK3⟩, ?_⟩
                simp only [intOf]
                rw [HMJ.out, HMJ1.out]
                omega
              · have hzb : (zg Z q == 0) = false := by simp [hz]
                have HE : Hid (∃ O, J O (rcU Z x t (m + 1)) W3 ∧ ∀ k, k < W.heap.size → O k → O0 k) := hide (by rw [← HSTP.out (fun h => hz h.2)]; exact HJ3.out)
                rw [hzb] at HEQ
                clear HSTP HNXT HTK HJ3 hfar hz hzb
                go_wp2_with (first | (refine HGX.out.mono ?_; rintro e w5 ⟨rfl, hw⟩; subst w5) | (refine HEQ.out.mono ?_; rintro e w5 ⟨rfl, hw⟩; subst w5))
                exact ⟨⟨m + 1, by have := HI.out; congr 1; omega, by have := HI.out; omega, HE, HK3⟩, by simp only [intOf]; omega⟩
          · have HJ3 := hide hJ3
            clear hJ3
            gi_wp2
            go_wp2_with fail
            refine bodyPost_ret (results_none rfl _ _ _) rfl ?_
            exact ⟨⟨_, rfl⟩, HK3.out, O', HO3.out, .inr HJ3.out⟩
        · have HINF : Hid (∀ w, Calls Tryz.prog 113 #[.int .i64 (rX t i j), .int .i64 (rY t i j)] w fun e w' => e = .returned (.bool false) ∧ w' = w) := hide (fun w => by
            have h := HIN.out (rX t i j) (rY t i j) w
            rwa [HIJ.out, decide_eq_false hjl] at h)
          obtain rfl : j = rl t i := by omega
          have HE : Hid (∃ O, J O (rcU Z x t (m + 1)) wr ∧ ∀ k, k < W.heap.size → O k → O0 k) := hide (by rw [HUM.out, vis_end hF.out]; exact hJs.out)
          clear hJs hF HIJ HMJ
          go_wp2_with (refine (HINF.out _).mono ?_; rintro e w5 ⟨rfl, hw⟩; subst w5)
          exact ⟨⟨m + 1, by have := HI.out; congr 1; omega, by have := HI.out; omega, HE, hKs⟩, by simp only [intOf]; omega⟩
    · have hme : m = EE - BB := by omega
      have hie : i = EE := by omega
      subst hie
      have HE : Hid (∃ O, J O XS wr ∧ ∀ k, k < W.heap.size → O k → O0 k) := hide (by rw [← HAL.out, ← hme]; exact hJr.out)
      clear hJr hme
      go_wp2_with fail
      refine bodyPost_end (results_none rfl _ _ _) rfl ?_
      obtain ⟨O, h1, h2⟩ := HE.out
      exact ⟨⟨_, rfl⟩, hK.out, O, h2, .inl h1⟩

end Go.Proofs.YtdmlamnonbmboaaGreatDoor
