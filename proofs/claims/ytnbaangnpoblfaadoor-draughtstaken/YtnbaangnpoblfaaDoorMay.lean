/-
  draughts.May, walked: which boards may be. No conditions beyond those that each theorem bears.
-/
import Derived.Test.YtnbaangnpoblfaaDoorZb
import Derived.Test.YtnbaangnpoblfaaDoorNu
namespace Go.Proofs.YtnbaangnpoblfaaDoor
open Go.RowKit Go.Shelf

theorem isPlayer_any (x : Int) (w : World) : Calls Tryd.prog 30 #[.int .i64 x] w fun e w' => e = .returned (.bool (decide (x = 1 ∨ x = 2))) ∧ w' = w := by
  by_cases h1 : x = 1
  · subst h1
    go_enter Tryd.func30, Tryd.ntmps30
    go_wp2
    go_ret
    exact ⟨rfl, rfl⟩
  · have e1 : (x == 1) = false := by simpa using h1
    by_cases h2 : x = 2
    · subst h2
      go_enter Tryd.func30, Tryd.ntmps30
      go_wp2
      go_ret
      exact ⟨rfl, rfl⟩
    · have e2 : (x == 2) = false := by simpa using h2
      have e3 : decide (x = 1 ∨ x = 2) = false := by simp [h1, h2]
      rw [e3]
      clear h1 h2 e3
      go_enter Tryd.func30, Tryd.ntmps30
      go_wp2
      go_ret
      exact ⟨rfl, rfl⟩

theorem mayStand_any (x : Int) (p : Nat) (hp : p ≤ 32) (w : World) : Calls Tryd.prog 31 #[.int .i64 x, .int .i64 (p : Nat)] w fun e w' => e = .returned (.bool (okP x p)) ∧ w' = w := by
  obtain ⟨G, hG⟩ : ∃ G, okP x p = G := ⟨_, rfl⟩
  rw [hG]
  by_cases h1 : x = 1
  · subst h1
    by_cases h4 : 4 < p
    · obtain rfl : true = G := by rw [← hG]; unfold okP; simp; omega
      have h4' : (p : Int) > 4 := by omega
      clear hG
      go_enter Tryd.func31, Tryd.ntmps31
      go_wp2
      go_ret
      exact ⟨by first | rfl | simp, rfl⟩
    · obtain rfl : false = G := by rw [← hG]; unfold okP; simp; omega
      have h4' : ¬ (p : Int) > 4 := by omega
      clear hG
      go_enter Tryd.func31, Tryd.ntmps31
      go_wp2
      go_ret
      exact ⟨by first | rfl | simp, rfl⟩
  · have e1 : (x == 1) = false := by simpa using h1
    by_cases h2 : x = -1
    · subst h2
      by_cases h4 : p ≤ 28
      · obtain rfl : true = G := by rw [← hG]; unfold okP; simp; omega
        have h4' : (p : Int) ≤ 28 := by omega
        clear hG
        go_enter Tryd.func31, Tryd.ntmps31
        go_wp2
        go_ret
        exact ⟨by first | rfl | simp, rfl⟩
      · obtain rfl : false = G := by rw [← hG]; unfold okP; simp; omega
        have h4' : ¬ (p : Int) ≤ 28 := by omega
        clear hG
        go_enter Tryd.func31, Tryd.ntmps31
        go_wp2
        go_ret
        exact ⟨by first | rfl | simp, rfl⟩
    · have e2 : (x == -1) = false := by simpa using h2
      by_cases h3 : x = 0
      · subst h3
        obtain rfl : true = G := by rw [← hG]; unfold okP; simp
        clear hG
        go_enter Tryd.func31, Tryd.ntmps31
        go_wp2
        go_ret
        exact ⟨by first | rfl | simp, rfl⟩
      · have e3 : (x == 0) = false := by simpa using h3
        by_cases h4 : x = 2
        · subst h4
          obtain rfl : true = G := by rw [← hG]; unfold okP; simp
          clear hG
          go_enter Tryd.func31, Tryd.ntmps31
          go_wp2
          go_ret
          exact ⟨by first | rfl | simp, rfl⟩
        · have e4 : (x == 2) = false := by simpa using h4
          by_cases h5 : x = -2
          · subst h5
            obtain rfl : true = G := by rw [← hG]; unfold okP; simp
            clear hG
            go_enter Tryd.func31, Tryd.ntmps31
            go_wp2
            go_ret
            exact ⟨by first | rfl | simp, rfl⟩
          · have e5 : (x == -2) = false := by simpa using h5
            obtain rfl : false = G := by rw [← hG]; unfold okP; simp; omega
            clear hG h1 h2 h3 h4 h5
            go_enter Tryd.func31, Tryd.ntmps31
            go_wp2
            go_ret
            exact ⟨by first | rfl | simp, rfl⟩

theorem okU_succ {Z : List Int} {k : Nat} (h : okU Z k) (hk : okP (Z.getD (k + 1) 0) (k + 1) = true) : okU Z (k + 1) := fun i hi => by
  by_cases e : i = k
  · subst e; exact hk
  · exact h i (by omega)

theorem mayD_false_ok {Z : List Int} {t : Int} {k : Nat} (hk : k < 32) (h : okP (Z.getD (k + 1) 0) (k + 1) = false) : mayD Z t = false := by
  cases e : mayD Z t with
  | false => rfl
  | true => have := ((mayD_iff Z t).1 e).ok k hk; rw [h] at this; cases this

/-- Counts, in memory. -/
def cnV (Z : List Int) (k : Nat) : List Value := [.int .i64 (cn Z 0 k : Nat), .int .i64 (cn Z 1 k : Nat), .int .i64 (cn Z 2 k : Nat)]

theorem cnV_set (Z : List Int) (k : Nat) : (cnV Z k).set (own3 (Z.getD (k + 1) 0)) (.int .i64 ((cn Z (own3 (Z.getD (k + 1) 0)) k + 1 : Nat) : Int)) = cnV Z (k + 1) := by
  unfold cnV
  rw [cn_succ, cn_succ, cn_succ]
  rcases own3_cases (Z.getD (k + 1) 0) with ⟨h, _⟩ | ⟨h, _⟩ | ⟨h, _⟩ <;> rw [h] <;> simp

theorem cnV_at (Z : List Int) (k : Nat) (o : Nat) (ho : o ≤ 2) : (cnV Z k)[o]? = some (.int .i64 (cn Z o k : Nat)) := by
  have h3 : o = 0 ∨ o = 1 ∨ o = 2 := by omega
  rcases h3 with rfl | rfl | rfl <;> rfl

attribute [local irreducible] okP cn own3 mayD cnV

set_option maxRecDepth 100000 in
set_option maxHeartbeats 4000000 in
theorem May_any (t : Int) (a : Option Addr) (n c : Nat) (zs : List Int) (w : World) (h : Rd w a n c zs) :
    Calls Tryd.prog 8 #[.agg (dgA a n c t)] w fun e w' => e = .returned (.bool (mayD zs t)) ∧ Below w.heap.size w w' := by
  obtain ⟨w1, hw1⟩ : ∃ w1, w.alloc (.cells (dgA a n c t) 24) = w1 := ⟨_, rfl⟩
  have HB1 : Hid (Below w.heap.size w w1) := hide (by rw [← hw1]; exact (Below.refl _ _).alloc (Nat.le_refl _) _)
  have G1 : Dg w1 w.heap.size a n c t := by rw [← hw1]; exact Dg.new _ _ _ _ _
  have R1 := h.mono HB1.out
  obtain ⟨g0, g1⟩ := G1.cells
  obtain ⟨G, hG⟩ : ∃ G, mayD zs t = G := ⟨_, rfl⟩
  rw [hG]
  have hln : zs.length = n := h.len
  have hcm := h.max
  have hcap := h.cap
  unfold maxLen at hcm
  by_cases h33 : n = 33
  · subst h33
    obtain ⟨ba, oa, rfl, hca⟩ := R1.cells (by omega)
    have c0 := hca 0 (by omega)
    rw [Nat.add_zero] at c0
    by_cases hz : zs.getD 0 0 = 0
    · by_cases ht : t = 1 ∨ t = 2
      · have HE : Hid (∀ b1 b2, okU zs 32 → decide (cn zs 1 32 ≤ 12) = b1 → decide (cn zs 2 32 ≤ 12) = b2 → G = (b1 && b2)) := hide (fun b1 b2 hok h1 h2 => by
          rw [← hG, ← h1, ← h2]
          unfold mayD
          have : (List.range 32).all (fun i => okP (zs.getD (i + 1) 0) (i + 1)) = true := List.all_eq_true.2 (fun i hi => hok i (List.mem_range.1 hi))
          rw [this]
          simp only [hln, hz, ht, decide_true, Bool.true_and])
        have HF : Hid (∀ k, k < 32 → okP (zs.getD (k + 1) 0) (k + 1) = false → G = false) := hide (fun k hk h => by rw [← hG]; exact mayD_false_ok hk h)
        have HPL : Hid (∀ W, Calls Tryd.prog 30 #[.int .i64 t] W fun e w' => e = .returned (.bool true) ∧ w' = W) := hide (fun W => by
          have := isPlayer_any t W
          rw [show decide (t = 1 ∨ t = 2) = true by simpa using ht] at this; exact this)
        have HG1 := hide G1
        have HCA := hide hca
        have HR1 := hide R1
        rw [hz] at c0
        clear hG ht hz h R1 hln hca G1
        go_enter Tryd.func8, Tryd.ntmps8
        go_upto_region 1 with fail
        clear hw1
        go_wp2_with fail
        refine (HPL.out _).mono ?_
        rintro e w2 ⟨rfl, hw2⟩
        subst w2
        go_upto_region 4 with fail
        clear c0 g0 g1
        obtain ⟨w2, hw2⟩ : ∃ w2, w1.alloc (.cells #[.int .i64 0, .int .i64 0, .int .i64 0] 52) = w2 := ⟨_, rfl⟩
        have HV2 : Hid (Vb w2 w1.heap.size 52 (cnV zs 0)) := hide (by
          rw [← hw2]
          have := Vb.new w1 52 [.int .i64 0, .int .i64 0, .int .i64 0]
          have e : cnV zs 0 = [.int .i64 0, .int .i64 0, .int .i64 0] := by unfold cnV; rw [cn_zero, cn_zero, cn_zero]; rfl
          rw [e]; exact this)
        have HB2 : Hid (Below w1.heap.size w1 w2) := hide (by rw [← hw2]; exact (Below.refl _ _).alloc (Nat.le_refl _) _)
        rw [hw2]
        clear hw2
        go_wp2_with fail
        go_loopw [4] (fun v wr => ∃ k : Nat, v = .int .i64 ((k : Int) + 1) ∧ k ≤ 32 ∧ Hid (okU zs k) ∧ Hid (Vb wr w1.heap.size 52 (cnV zs k)) ∧ Hid (Keeps (fun q => q = w1.heap.size) w2 wr)) (fun v _ => 33 - (intOf v).toNat)
        case atStart => exact ⟨0, rfl, by omega, hide (fun i hi => absurd hi (by omega)), HV2, hide (Keeps.refl _ _)⟩
        case round =>
          obtain ⟨k, rfl, hk, hU, hV, hK⟩ := hrel
          have HKB : Hid (Below w1.heap.size w1 wr) := hide (HB2.out.trans (hK.out.below HB2.out.size (fun q hq e => by omega)))
          by_cases hk2 : k < 32
          · have hle : (k : Int) + 1 ≤ 32 := by omega
            obtain ⟨g0, -⟩ := (HG1.out.below HKB.out HG1.out.lt).cells
            have RW := HR1.out.mono HKB.out
            have cz := (RW.cell (i := k + 1) (by omega)).2
            have hk1 : (k : Int) + 1 = ((k + 1 : Nat) : Int) := by omega
            obtain ⟨x, hx⟩ : ∃ x, zs.getD (k + 1) 0 = x := ⟨_, rfl⟩
            have HSET := hide (cnV_set zs k)
            have HF1 := hide (HF.out k hk2)
            have HUS := hide (fun hh => okU_succ (Z := zs) hU.out hh)
            have HCV := hide (fun o ho => hV.out.cell (cnV_at zs k o ho))
            rw [hx] at cz HSET HF1 HUS
            have HMS := hide (fun W => mayStand_any x (k + 1) (by omega) W)
            have HOW := hide (fun W => owner_any x W)
            have hcl := cn_le zs (own3 x) k
            generalize hKK : k + 1 = K1 at *
            clear hx RW
            rw [hk1]
            have hle' : (K1 : Int) ≤ 32 := by omega
            have hK33 : (K1 : Int) < 33 := by omega
            cases hq : okP x K1 with
            | false =>
              rw [hq] at HMS
              have HGF := hide (HF1.out hq)
              clear hq
              go_wp2_with fail
              refine (HMS.out _).mono ?_
              rintro e w3 ⟨rfl, hw3⟩
              subst w3
              go_wp2_with fail
              go_ret
              exact ⟨by rw [HGF.out]; rfl, HB1.out.trans (HKB.out.mono HB1.out.size)⟩
            | true =>
              rw [hq] at HMS
              have HUN := hide (HUS.out hq)
              have ho2 : own3 x ≤ 2 := by rcases own3_cases x with ⟨h, _⟩ | ⟨h, _⟩ | ⟨h, _⟩ <;> omega
              have co := HCV.out _ ho2
              have fo := hV.out.frozen (own3 x)
              have HS2 := hide (hV.out.set (own3 x) (.int .i64 ((cn zs (own3 x) k + 1 : Nat) : Int)))
              rw [HSET.out] at HS2
              have HK2 := hide (hK.out.setCell (X := fun q => q = w1.heap.size) (p := ⟨w1.heap.size, own3 x, none⟩) rfl (.int .i64 ((cn zs (own3 x) k + 1 : Nat) : Int)))
              have hcc : ((cn zs (own3 x) k : Nat) : Int) + 1 = ((cn zs (own3 x) k + 1 : Nat) : Int) := by omega
              have ho3 : ((own3 x : Nat) : Int) < 3 := by omega
              generalize hC1 : cn zs (own3 x) k + 1 = C1 at *
              generalize cn zs (own3 x) k = C0 at *
              generalize own3 x = ow at *
              have hC30 : C0 ≤ 32 := by omega
              clear hq hC1
              go_wp2_with fail
              refine (HMS.out _).mono ?_
              rintro e w3 ⟨rfl, hw3⟩
              subst w3
              go_wp2_with fail
              refine (HOW.out _).mono ?_
              rintro e w3 ⟨rfl, hw3⟩
              subst w3
              go_wp2_with fail
              refine ⟨⟨k + 1, ?_, by omega, by rw [hKK]; exact HUN, by rw [hKK]; exact HS2, HK2⟩, by simp [intOf]; omega⟩
              simp; omega
          · obtain rfl : k = 32 := by omega
            have c1 := hV.out.cell (cnV_at zs 32 1 (by omega))
            have c2 := hV.out.cell (cnV_at zs 32 2 (by omega))
            have HE1 := hide (fun b1 b2 => HE.out b1 b2 hU.out)
            have l1 := cn_le zs 1 32
            have l2 := cn_le zs 2 32
            generalize cn zs 1 32 = C1 at *
            generalize cn zs 2 32 = C2 at *
            by_cases d1 : C1 ≤ 12
            · have d1' : (C1 : Int) ≤ 12 := by omega
              by_cases d2 : C2 ≤ 12
              · have d2' : (C2 : Int) ≤ 12 := by omega
                have HGE := hide (HE1.out true true (by simpa using d1) (by simpa using d2))
                go_wp2_with fail
                go_ret
                exact ⟨by rw [HGE.out]; rfl, HB1.out.trans (HKB.out.mono HB1.out.size)⟩
              · have d2' : ¬ (C2 : Int) ≤ 12 := by omega
                have HGE := hide (HE1.out true false (by simpa using d1) (by simpa using d2))
                go_wp2_with fail
                go_ret
                exact ⟨by rw [HGE.out]; rfl, HB1.out.trans (HKB.out.mono HB1.out.size)⟩
            · have d1' : ¬ (C1 : Int) ≤ 12 := by omega
              have HGE := hide (HE1.out false (decide (C2 ≤ 12)) (by simpa using d1) rfl)
              go_wp2_with fail
              go_ret
              exact ⟨by rw [HGE.out]; rfl, HB1.out.trans (HKB.out.mono HB1.out.size)⟩
      · have HGE : Hid (G = false) := hide (by rw [← hG]; unfold mayD; simp only [hln, hz, ht, decide_true, decide_false, Bool.true_and, Bool.false_and])
        have HPL : Hid (∀ W, Calls Tryd.prog 30 #[.int .i64 t] W fun e w' => e = .returned (.bool false) ∧ w' = W) := hide (fun W => by
          have := isPlayer_any t W
          rw [show decide (t = 1 ∨ t = 2) = false by simpa using ht] at this; exact this)
        rw [hz] at c0
        clear hG ht hz h R1 hln hca G1
        go_enter Tryd.func8, Tryd.ntmps8
        go_upto_region 1 with fail
        clear hw1
        go_wp2_with fail
        refine (HPL.out _).mono ?_
        rintro e w2 ⟨rfl, hw2⟩
        subst w2
        go_wp2_with fail
        go_ret
        exact ⟨by rw [HGE.out]; rfl, HB1.out⟩
    · have HGE : Hid (G = false) := hide (by rw [← hG]; unfold mayD; simp only [hln, hz, decide_true, decide_false, Bool.true_and, Bool.false_and])
      have hz' : (zs.getD 0 0 != 0) = true := by simpa using hz
      generalize zs.getD 0 0 = z0 at *
      clear hG hz h R1 hln hca G1
      go_enter Tryd.func8, Tryd.ntmps8
      go_upto_region 1 with fail
      clear hw1
      go_wp2_with fail
      go_ret
      exact ⟨by rw [HGE.out]; rfl, HB1.out⟩
  · have HGE : Hid (G = false) := hide (by rw [← hG]; unfold mayD; simp only [hln, h33, decide_false, Bool.false_and])
    have h33' : ((n : Int) != 33) = true := by simp; omega
    clear hG h33 h R1 hln G1
    go_enter Tryd.func8, Tryd.ntmps8
    go_upto_region 1 with fail
    clear hw1
    go_wp2_with fail
    go_ret
    exact ⟨by rw [HGE.out]; rfl, HB1.out⟩

end Go.Proofs.YtnbaangnpoblfaaDoor
