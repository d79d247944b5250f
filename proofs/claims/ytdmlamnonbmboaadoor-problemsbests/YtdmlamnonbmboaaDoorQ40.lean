/-
  Chess: how the document says that a piece may go, walked. No conditions beyond those that each theorem bears.
  Chess: what the document makes of a position, as numbers: the rights that are left. No conditions beyond those that each theorem bears.
-/
import Derived.Test.YtdmlamnonbmboaaDoorQ35
import Derived.Test.YtdmlamnonbmboaaDoorQ09
import Derived.Test.YtdmlamnonbmboaaDoorQ31
namespace Go.Proofs.YtdmlamnonbmboaaDoor
open Go.RowKit Go.Shelf

theorem SideSign_any (t : Int) (ht : t = 0 ∨ t = 1) (w : World) : Calls Tryd.prog 39 #[.int .i64 t] w fun r w' => r = .returned (.int .i64 (1 - 2 * t)) ∧ w' = w := by
  rcases ht with rfl | rfl
  · go_enter Tryd.func39, Tryd.ntmps39
    go_wp2
    go_ret
    exact ⟨rfl, rfl⟩
  · go_enter Tryd.func39, Tryd.ntmps39
    go_wp2
    go_ret
    exact ⟨rfl, rfl⟩

/-- How a piece may go, by the numbers that it is asked of. -/
def goS (xs ys s zq : Int) (ar : Bool) (f q : Nat) (e z1 : Int) : Bool :=
  if xs ≤ 0 ∨ 0 < ys then false
  else if xs ≠ 1 then ar
  else if ar = true then zq != 0 || decide ((q : Int) = e)
  else if (q : Int) = (f : Int) + 8 * s then zq == 0
  else decide ((f : Int) / 8 = if s < 0 then 6 else 1) && (decide ((q : Int) = (f : Int) + 16 * s) && (zq == 0 && z1 == 0))
theorem goS_a {xs ys s zq : Int} {ar : Bool} {f q : Nat} {e z1 : Int} (h : xs ≤ 0) : goS xs ys s zq ar f q e z1 = false := by unfold goS; rw [if_pos (Or.inl h)]
theorem goS_b {xs ys s zq : Int} {ar : Bool} {f q : Nat} {e z1 : Int} (h : 0 < ys) : goS xs ys s zq ar f q e z1 = false := by unfold goS; rw [if_pos (Or.inr h)]
theorem goS_c {xs ys s zq : Int} {ar : Bool} {f q : Nat} {e z1 : Int} (h1 : ¬ xs ≤ 0) (h2 : ¬ 0 < ys) (h : xs ≠ 1) : goS xs ys s zq ar f q e z1 = ar := by unfold goS; rw [if_neg (fun o => o.elim h1 h2), if_pos h]
theorem goS_d {xs ys s zq : Int} {f q : Nat} {e z1 : Int} (h1 : ¬ xs ≤ 0) (h2 : ¬ 0 < ys) (h : xs = 1) : goS xs ys s zq true f q e z1 = (zq != 0 || decide ((q : Int) = e)) := by unfold goS; rw [if_neg (fun o => o.elim h1 h2), if_neg (fun o => o h), if_pos rfl]
theorem goS_e {xs ys s zq : Int} {f q : Nat} {e z1 : Int} (h1 : ¬ xs ≤ 0) (h2 : ¬ 0 < ys) (h : xs = 1) (h3 : (q : Int) = (f : Int) + 8 * s) : goS xs ys s zq false f q e z1 = (zq == 0) := by unfold goS; rw [if_neg (fun o => o.elim h1 h2), if_neg (fun o => o h), if_neg (by decide), if_pos h3]
theorem goS_f {xs ys s zq : Int} {f q : Nat} {e z1 : Int} (h1 : ¬ xs ≤ 0) (h2 : ¬ 0 < ys) (h : xs = 1) (h3 : ¬ (q : Int) = (f : Int) + 8 * s) : goS xs ys s zq false f q e z1 = (decide ((f : Int) / 8 = if s < 0 then 6 else 1) && (decide ((q : Int) = (f : Int) + 16 * s) && (zq == 0 && z1 == 0))) := by unfold goS; rw [if_neg (fun o => o.elim h1 h2), if_neg (fun o => o h), if_neg (by decide), if_neg h3]

attribute [local irreducible] goS atR

set_option maxRecDepth 100000 in
set_option maxHeartbeats 4000000 in
theorem mayGo_raw (a : Option Addr) (c : Nat) (Z : List Int) (t k e h f' : Int) (ht : t = 0 ∨ t = 1) (hz : Pz Z) (f q : Nat) (hf : f < 64) (hq : q < 64) (w : World) (hR : Rd w a 64 c Z) :
    Calls Tryd.prog 56 #[.agg (chA a 64 c t k e h f'), .int .i64 (f : Nat), .int .i64 (q : Nat)] w fun r w' => r = .returned (.bool (goS (zg Z f * (1 - 2 * t)) (zg Z q * (1 - 2 * t)) (1 - 2 * t) (zg Z q) (atR Z f q) f q e (zg Z ((f : Int) + 8 * (1 - 2 * t)).toNat))) ∧ Below w.heap.size w w' := by
  have HSS := hide (SideSign_any t ht)
  have HAT : Hid (∀ W, Rd W a 64 c Z → Calls Tryd.prog 55 #[.slice a 64 c, .int .i64 (f : Nat), .int .i64 (q : Nat)] W fun r w' => r = .returned (.bool (atR Z f q)) ∧ w' = W) := hide (fun W hr => Attacks_any a c Z f q hf hq (hz.2 f) W hr)
  obtain ⟨s, hs⟩ : ∃ s : Int, 1 - 2 * t = s := ⟨_, rfl⟩
  rw [hs] at HSS ⊢
  have hs1 : s = 1 ∨ s = -1 := by rcases ht with rfl | rfl <;> omega
  have bf := hz.2 f
  have bq := hz.2 q
  obtain ⟨xs, hxs⟩ : ∃ xs, zg Z f * s = xs := ⟨_, rfl⟩
  obtain ⟨ys, hys⟩ : ∃ ys, zg Z q * s = ys := ⟨_, rfl⟩
  have hx6 : -6 ≤ xs ∧ xs ≤ 6 := by rcases hs1 with rfl | rfl <;> omega
  have hy6 : -6 ≤ ys ∧ ys ≤ 6 := by rcases hs1 with rfl | rfl <;> omega
  have HX : Hid (wrap64 (zg Z f * s) = xs) := hide (by rw [hxs]; unfold wrap64; omega)
  have HY : Hid (wrap64 (zg Z q * s) = ys) := hide (by rw [hys]; unfold wrap64; omega)
  have HE8 : Hid (wrap64 (8 * s) = 8 * s ∧ wrap64 (16 * s) = 16 * s) := hide (by rcases hs1 with rfl | rfl <;> refine ⟨?_, ?_⟩ <;> unfold wrap64 <;> omega)
  have HA8 : Hid (IntKind.i64.wrap ((f : Int) + 8 * s) = (f : Int) + 8 * s ∧ IntKind.i64.wrap ((f : Int) + 16 * s) = (f : Int) + 16 * s) := hide (by rw [IntKind.wrap_i64, IntKind.wrap_i64]; rcases hs1 with rfl | rfl <;> omega)
  rw [hxs, hys]
  obtain ⟨w1, hw1⟩ : ∃ w1, w.alloc (.cells (chA a 64 c t k e h f') 24) = w1 := ⟨_, rfl⟩
  have B1 : Below w.heap.size w w1 := by rw [← hw1]; exact (Below.refl _ w).alloc (Nat.le_refl _) _
  have C1 : Ch w1 w.heap.size a 64 c t k e h f' := by rw [← hw1]; exact Ch.new w a 64 c t k e h f'
  have hR1 := hR.mono B1
  have HATw := hide (HAT.out w1 hR1)
  have hcm := hR1.max
  unfold maxLen at hcm
  have hcc := hR1.cap
  obtain ⟨rb, ro, rfl, hcl⟩ := hR1.cells (by omega)
  have HC : Hid (∀ i, i < 64 → w1.cell? ⟨rb, ro + i, none⟩ = some (.int .i64 (zg Z i))) := hide hcl
  have cf := HC.out f hf
  have cq := HC.out q hq
  obtain ⟨x0, x1, -, x3, -, -⟩ := C1.cells
  have HB1 := hide B1
  obtain ⟨z1, hz1⟩ : ∃ z1, zg Z ((f : Int) + 8 * s).toNat = z1 := ⟨_, rfl⟩
  have HZ1 := hide hz1
  rw [hz1]
  obtain ⟨ar, har⟩ : ∃ ar, atR Z f q = ar := ⟨_, rfl⟩
  rw [har] at HATw ⊢
  obtain ⟨zf, hzf⟩ : ∃ zf, zg Z f = zf := ⟨_, rfl⟩
  obtain ⟨zq, hzq⟩ : ∃ zq, zg Z q = zq := ⟨_, rfl⟩
  rw [hzf] at cf HX
  rw [hzq] at cq HY ⊢
  obtain ⟨res, hres⟩ : ∃ res, goS xs ys s zq ar f q e z1 = res := ⟨_, rfl⟩
  rw [hres]
  have HRS := hide hres
  have wx := HX.out
  have wy := HY.out
  have hf' : (f : Int) < 64 := by omega
  have hq' : (q : Int) < 64 := by omega
  clear hR hR1 B1 hcl C1 hxs hys hs ht har hzf hzq hz1 hres HAT HX HY hz bf bq hx6 hy6
  go_enter Tryd.func56, Tryd.ntmps56
  go_upto_region 1 with fail
  clear hw1
  go_upto_region 3 with (go_at_call 39; refine (HSS.out _).mono ?_; rintro r w5 ⟨rfl, hw⟩; subst w5)
  by_cases h1 : xs ≤ 0
  · have hrs := HRS.out
    rw [goS_a h1] at hrs
    have HR := hide hrs
    clear hrs
    go_wp2_with fail
    go_ret
    exact ⟨by first | rfl | (rw [HR.out]; rfl) | (rw [← HR.out]; rfl), HB1.out⟩
  · by_cases h2 : 0 < ys
    · have hrs := HRS.out
      rw [goS_b h2] at hrs
      have HR := hide hrs
      clear hrs
      go_wp2_with fail
      go_ret
      exact ⟨by first | rfl | (rw [HR.out]; rfl) | (rw [← HR.out]; rfl), HB1.out⟩
    · by_cases h3 : xs = 1
      · have hb3 : (xs != 1) = false := by simp [h3]
        have hrs := HRS.out
        clear HRS
        cases ar with
        | true =>
          rw [goS_d h1 h2 h3] at hrs
          by_cases hz0 : zq = 0
          · have hbz : (zq != 0) = false := by simp [hz0]
            rw [hbz, Bool.false_or] at hrs
            have HR := hide hrs
            clear hrs hz0 h3
            by_cases hqe : (q : Int) = e
            · rw [decide_eq_true hqe] at HR
              have hbe : ((q : Int) == e) = true := by simp [hqe]
              clear hqe
              go_wp2_with (go_at_call 55; refine HATw.out.mono ?_; rintro r w5 ⟨rfl, hw⟩; subst w5)
              go_ret
              exact ⟨by first | rfl | (rw [HR.out]; rfl) | (rw [← HR.out]; rfl), HB1.out⟩
            · rw [decide_eq_false hqe] at HR
              have hbe : ((q : Int) == e) = false := by simp [hqe]
              clear hqe
              go_wp2_with (go_at_call 55; refine HATw.out.mono ?_; rintro r w5 ⟨rfl, hw⟩; subst w5)
              go_ret
              exact ⟨by first | rfl | (rw [HR.out]; rfl) | (rw [← HR.out]; rfl), HB1.out⟩
          · have hbz : (zq != 0) = true := by simp [hz0]
            rw [hbz, Bool.true_or] at hrs
            have HR := hide hrs
            clear hrs hz0 h3
            go_wp2_with (go_at_call 55; refine HATw.out.mono ?_; rintro r w5 ⟨rfl, hw⟩; subst w5)
            go_ret
            exact ⟨by first | rfl | (rw [HR.out]; rfl) | (rw [← HR.out]; rfl), HB1.out⟩
        | false =>
          have w8 := HE8.out.1
          have w16 := HE8.out.2
          have a8 := HA8.out.1
          have a16 := HA8.out.2
          by_cases h8 : (q : Int) = (f : Int) + 8 * s
          · rw [goS_e h1 h2 h3 h8] at hrs
            have hb8 : ((q : Int) == (f : Int) + 8 * s) = true := by simp [h8]
            have HR := hide hrs
            clear hrs h8 h3
            go_wp2_with (go_at_call 55; refine HATw.out.mono ?_; rintro r w5 ⟨rfl, hw⟩; subst w5)
            go_ret
            exact ⟨by first | rfl | (rw [HR.out]; rfl) | (rw [← HR.out]; rfl), HB1.out⟩
          · rw [goS_f h1 h2 h3 h8] at hrs
            have hb8 : ((q : Int) == (f : Int) + 8 * s) = false := by simp [h8]
            clear h8 h3
            by_cases hs0 : s < 0
            · rw [if_pos hs0] at hrs
              have HSV : Hid (s = -1) := hide (by omega)
              by_cases hfr : (f : Int) / 8 = 6
              · rw [decide_eq_true hfr, Bool.true_and] at hrs
                have hbf : ((f : Int) / 8 == 6) = true := by simp [hfr]
                have HFR := hide hfr
                clear hfr
                by_cases hq2 : (q : Int) = (f : Int) + 16 * s
                · rw [decide_eq_true hq2, Bool.true_and] at hrs
                  have hbq : ((q : Int) == (f : Int) + 16 * s) = true := by simp [hq2]
                  clear hq2
                  by_cases hz0 : zq = 0
                  · have hbz : (zq == 0) = true := by simp [hz0]
                    rw [hbz, Bool.true_and] at hrs
                    have HR := hide hrs
                    clear hrs hz0
                    obtain ⟨f1, hf1⟩ : ∃ f1 : Nat, (f : Int) + 8 * s = ((f1 : Nat) : Int) := ⟨((f : Int) + 8 * s).toNat, by have := HFR.out; have := HSV.out; omega⟩
                    have hl1 : f1 < 64 := by have := HFR.out; have := HSV.out; omega
                    have c1 := HC.out f1 hl1
                    have e1 : zg Z f1 = z1 := by rw [← HZ1.out, hf1]; rfl
                    rw [e1] at c1
                    rw [hf1] at a8
                    have hl1' : (f1 : Int) < 64 := by omega
                    have hn1 : IntKind.i64.wrap ((f : Int) + 8 * s) = ((f1 : Nat) : Int) := by rw [hf1]; exact a8
                    clear e1 a8 hl1
                    rw [hf1] at hb8
                    go_wp2_with (go_at_call 55; refine HATw.out.mono ?_; rintro r w5 ⟨rfl, hw⟩; subst w5)
                    go_ret
                    exact ⟨by first | rfl | (rw [HR.out]; rfl) | (rw [← HR.out]; rfl), HB1.out⟩
                  · have hbz : (zq == 0) = false := by rw [beq_eq_false_iff_ne]; exact hz0
                    rw [hbz, Bool.false_and] at hrs
                    have HR := hide hrs
                    clear hrs hz0
                    go_wp2_with (go_at_call 55; refine HATw.out.mono ?_; rintro r w5 ⟨rfl, hw⟩; subst w5)
                    go_ret
                    exact ⟨by first | rfl | (rw [HR.out]; rfl) | (rw [← HR.out]; rfl), HB1.out⟩
                · rw [decide_eq_false hq2, Bool.false_and] at hrs
                  have hbq : ((q : Int) == (f : Int) + 16 * s) = false := by rw [beq_eq_false_iff_ne]; exact hq2
                  have HR := hide hrs
                  clear hrs hq2
                  go_wp2_with (go_at_call 55; refine HATw.out.mono ?_; rintro r w5 ⟨rfl, hw⟩; subst w5)
                  go_ret
                  exact ⟨by first | rfl | (rw [HR.out]; rfl) | (rw [← HR.out]; rfl), HB1.out⟩
              · rw [decide_eq_false hfr, Bool.false_and] at hrs
                have hbf : ((f : Int) / 8 == 6) = false := by rw [beq_eq_false_iff_ne]; exact hfr
                have HR := hide hrs
                clear hrs hfr
                go_wp2_with (go_at_call 55; refine HATw.out.mono ?_; rintro r w5 ⟨rfl, hw⟩; subst w5)
                go_ret
                exact ⟨by first | rfl | (rw [HR.out]; rfl) | (rw [← HR.out]; rfl), HB1.out⟩
            · rw [if_neg hs0] at hrs
              have HSV : Hid (s = 1) := hide (by omega)
              by_cases hfr : (f : Int) / 8 = 1
              · rw [decide_eq_true hfr, Bool.true_and] at hrs
                have hbf : ((f : Int) / 8 == 1) = true := by simp [hfr]
                have HFR := hide hfr
                clear hfr
                by_cases hq2 : (q : Int) = (f : Int) + 16 * s
                · rw [decide_eq_true hq2, Bool.true_and] at hrs
                  have hbq : ((q : Int) == (f : Int) + 16 * s) = true := by simp [hq2]
                  clear hq2
                  by_cases hz0 : zq = 0
                  · have hbz : (zq == 0) = true := by simp [hz0]
                    rw [hbz, Bool.true_and] at hrs
                    have HR := hide hrs
                    clear hrs hz0
                    obtain ⟨f1, hf1⟩ : ∃ f1 : Nat, (f : Int) + 8 * s = ((f1 : Nat) : Int) := ⟨((f : Int) + 8 * s).toNat, by have := HFR.out; have := HSV.out; omega⟩
                    have hl1 : f1 < 64 := by have := HFR.out; have := HSV.out; omega
                    have c1 := HC.out f1 hl1
                    have e1 : zg Z f1 = z1 := by rw [← HZ1.out, hf1]; rfl
                    rw [e1] at c1
                    rw [hf1] at a8
                    have hl1' : (f1 : Int) < 64 := by omega
                    have hn1 : IntKind.i64.wrap ((f : Int) + 8 * s) = ((f1 : Nat) : Int) := by rw [hf1]; exact a8
                    clear e1 a8 hl1
                    rw [hf1] at hb8
                    go_wp2_with (go_at_call 55; refine HATw.out.mono ?_; rintro r w5 ⟨rfl, hw⟩; subst w5)
                    go_ret
                    exact ⟨by first | rfl | (rw [HR.out]; rfl) | (rw [← HR.out]; rfl), HB1.out⟩
                  · have hbz : (zq == 0) = false := by rw [beq_eq_false_iff_ne]; exact hz0
                    rw [hbz, Bool.false_and] at hrs
                    have HR := hide hrs
                    clear hrs hz0
                    go_wp2_with (go_at_call 55; refine HATw.out.mono ?_; rintro r w5 ⟨rfl, hw⟩; subst w5)
                    go_ret
                    exact ⟨by first | rfl | (rw [HR.out]; rfl) | (rw [← HR.out]; rfl), HB1.out⟩
                · rw [decide_eq_false hq2, Bool.false_and] at hrs
                  have hbq : ((q : Int) == (f : Int) + 16 * s) = false := by rw [beq_eq_false_iff_ne]; exact hq2
                  have HR := hide hrs
                  clear hrs hq2
                  go_wp2_with (go_at_call 55; refine HATw.out.mono ?_; rintro r w5 ⟨rfl, hw⟩; subst w5)
                  go_ret
                  exact ⟨by first | rfl | (rw [HR.out]; rfl) | (rw [← HR.out]; rfl), HB1.out⟩
              · rw [decide_eq_false hfr, Bool.false_and] at hrs
                have hbf : ((f : Int) / 8 == 1) = false := by rw [beq_eq_false_iff_ne]; exact hfr
                have HR := hide hrs
                clear hrs hfr
                go_wp2_with (go_at_call 55; refine HATw.out.mono ?_; rintro r w5 ⟨rfl, hw⟩; subst w5)
                go_ret
                exact ⟨by first | rfl | (rw [HR.out]; rfl) | (rw [← HR.out]; rfl), HB1.out⟩
      · have hrs := HRS.out
        rw [goS_c h1 h2 h3] at hrs
        have hb3 : (xs != 1) = true := by simp [h3]
        have HR := hide hrs
        clear hrs
        go_wp2_with (go_at_call 55; refine HATw.out.mono ?_; rintro r w5 ⟨rfl, hw⟩; subst w5)
        go_ret
        exact ⟨by first | rfl | (rw [HR.out]; rfl) | (rw [← HR.out]; rfl), HB1.out⟩

attribute [local semireducible] goS
theorem goS_goR {Z : List Int} {t : Nat} (ht : t ≤ 1) (e : Int) (f q : Nat) :
    goS (zg Z f * (1 - 2 * (t : Int))) (zg Z q * (1 - 2 * (t : Int))) (1 - 2 * (t : Int)) (zg Z q) (atR Z f q) f q e (zg Z ((f : Int) + 8 * (1 - 2 * (t : Int))).toNat) = goR Z t e f q := by
  rcases (show t = 0 ∨ t = 1 by omega) with rfl | rfl
  · have p0 : ∀ x : Int, pci 0 x = x := fun x => rfl
    have e1 : on1 0 f = ((f : Int) + 8 * (1 - 2 * ((0 : Nat) : Int))).toNat := by unfold on1 fw; rw [p0]; rfl
    have e2 : fw 0 = 8 := rfl
    unfold goS goR
    rw [e1, p0, p0, e2]
    have x1 : zg Z f * (1 - 2 * ((0 : Nat) : Int)) = zg Z f := by omega
    have x2 : zg Z q * (1 - 2 * ((0 : Nat) : Int)) = zg Z q := by omega
    rw [x1, x2]
    split
    · rfl
    · split
      · rfl
      · split
        · rfl
        · have x3 : (f : Int) + 8 * (1 - 2 * ((0 : Nat) : Int)) = (f : Int) + 8 := by omega
          rw [x3]
          split
          · rfl
          · have x4 : decide ((f : Int) / 8 = if (1 - 2 * ((0 : Nat) : Int)) < 0 then 6 else 1) = (f / 8 == (if (0 : Nat) = 0 then 1 else 6)) := by
              rw [if_neg (by omega), if_pos rfl, Bool.eq_iff_iff, decide_eq_true_eq, beq_iff_eq]; omega
            have x5 : (f : Int) + 16 * (1 - 2 * ((0 : Nat) : Int)) = (f : Int) + 8 + 8 := by omega
            rw [x4, x5, Bool.and_assoc, Bool.and_assoc]
  · have p1 : ∀ x : Int, pci 1 x = -x := fun x => rfl
    have e1 : on1 1 f = ((f : Int) + 8 * (1 - 2 * ((1 : Nat) : Int))).toNat := by unfold on1 fw; rw [p1]; rfl
    have e2 : fw 1 = -8 := rfl
    unfold goS goR
    rw [e1, p1, p1, e2]
    have x1 : zg Z f * (1 - 2 * ((1 : Nat) : Int)) = -zg Z f := by omega
    have x2 : zg Z q * (1 - 2 * ((1 : Nat) : Int)) = -zg Z q := by omega
    rw [x1, x2]
    split
    · rfl
    · split
      · rfl
      · split
        · rfl
        · have x3 : (f : Int) + 8 * (1 - 2 * ((1 : Nat) : Int)) = (f : Int) + -8 := by omega
          rw [x3]
          split
          · rfl
          · have x4 : decide ((f : Int) / 8 = if (1 - 2 * ((1 : Nat) : Int)) < 0 then 6 else 1) = (f / 8 == (if (1 : Nat) = 0 then 1 else 6)) := by
              rw [if_pos (by omega), if_neg (by omega), Bool.eq_iff_iff, decide_eq_true_eq, beq_iff_eq]; omega
            have x5 : (f : Int) + 16 * (1 - 2 * ((1 : Nat) : Int)) = (f : Int) + -8 + -8 := by omega
            rw [x4, x5, Bool.and_assoc, Bool.and_assoc]
theorem mayGo_any (a : Option Addr) (c : Nat) (Z : List Int) (t : Nat) (k e h f' : Int) (ht : t ≤ 1) (hz : Pz Z) (f q : Nat) (hf : f < 64) (hq : q < 64) (w : World) (hR : Rd w a 64 c Z) :
    Calls Tryd.prog 56 #[.agg (chA a 64 c (t : Nat) k e h f'), .int .i64 (f : Nat), .int .i64 (q : Nat)] w fun r w' => r = .returned (.bool (goR Z t e f q)) ∧ Below w.heap.size w w' := by
  rw [← goS_goR ht e f q]
  exact mayGo_raw a c Z (t : Nat) k e h f' (by omega) hz f q hf hq w hR

end Go.Proofs.YtdmlamnonbmboaaDoor

namespace Go.Proofs.YtdmlamnonbmboaaDoor
open Go.RowKit Go.Shelf
set_option maxRecDepth 20000

/-- Rights, one after the other: those that are lost are struck. -/
def kRs (L : Nat → Bool) (k : Nat) : Nat → Nat
  | 0 => k
  | i + 1 => if L i = true ∧ (kRs L k i).testBit i = true then kRs L k i - 2 ^ i else kRs L k i
def mk4 (a b c d : Bool) : Nat := a.toNat + 2 * b.toNat + 4 * c.toNat + 8 * d.toNat
def L4 (a b c d : Bool) (i : Nat) : Bool := [a, b, c, d].getD i false
theorem kRs_congr {L M : Nat → Bool} (k : Nat) : ∀ n, (∀ i, i < n → L i = M i) → kRs L k n = kRs M k n
  | 0, _ => rfl
  | n + 1, h => by rw [kRs, kRs, kRs_congr k n (fun i hi => h i (by omega)), h n (by omega)]
theorem tab_kR : ∀ a b c d : Bool, ((List.range 16).all fun k => Nat.beq (kRs (L4 a b c d) k 4) (anN k (mk4 a b c d)) && (List.range 5).all fun i => Nat.blt (kRs (L4 a b c d) k i) 16) = true := by decide +kernel
theorem L4_of (L : Nat → Bool) : ∀ i, i < 4 → L i = L4 (L 0) (L 1) (L 2) (L 3) i := by
  intro i hi
  match i, hi with
  | 0, _ => rfl
  | 1, _ => rfl
  | 2, _ => rfl
  | 3, _ => rfl
theorem kRs_four (L : Nat → Bool) {k : Nat} (hk : k < 16) : kRs L k 4 = anN k (mk4 (L 0) (L 1) (L 2) (L 3)) := by
  have := allN (tab_kR (L 0) (L 1) (L 2) (L 3)) hk
  rw [Bool.and_eq_true] at this
  rw [kRs_congr k 4 (L4_of L)]
  exact Nat.eq_of_beq_eq_true this.1
theorem kRs_lt (L : Nat → Bool) {k : Nat} (hk : k < 16) {i : Nat} (hi : i ≤ 4) : kRs L k i < 16 := by
  have := allN (tab_kR (L 0) (L 1) (L 2) (L 3)) hk
  rw [Bool.and_eq_true] at this
  rw [kRs_congr k i (fun j hj => L4_of L j (by omega))]
  exact Nat.le_of_ble_eq_true (allN this.2 (show i < 5 by omega))
theorem mk4_bit (a b c d : Bool) : ∀ i, i < 4 → (mk4 a b c d).testBit i = L4 a b c d i := by
  revert a b c d; decide
theorem mk4_lt (a b c d : Bool) : mk4 a b c d < 16 := by revert a b c d; decide

theorem tab_eq16 : ((List.range 16).all fun a => (List.range 16).all fun b => (!((List.range 4).all fun i => a.testBit i == b.testBit i)) || Nat.beq a b) = true := by decide +kernel
theorem tab_bitB : ((List.range 16).all fun a => (List.range 4).all fun i => bitB ((a : Nat) : Int) i == a.testBit i) = true := by decide +kernel
theorem bitB_nat {a i : Nat} (ha : a < 16) (hi : i < 4) : bitB ((a : Nat) : Int) i = a.testBit i := beq_iff_eq.1 (allN (allN tab_bitB ha) hi)
theorem eq16 {a b : Nat} (ha : a < 16) (hb : b < 16) (h : ∀ i, i < 4 → a.testBit i = b.testBit i) : a = b := by
  have := allN (allN tab_eq16 ha) hb
  have h2 : ((List.range 4).all fun i => a.testBit i == b.testBit i) = true := by
    rw [List.all_eq_true]
    intro i hi
    rw [beq_iff_eq]
    exact h i (List.mem_range.1 hi)
  rw [h2] at this
  exact Nat.eq_of_beq_eq_true (by simpa using this)
/-- Which rights the document strikes. -/
def lsR (Z : List Int) (t f q i : Nat) : Bool := f == rkP i || q == rkP i || ((zg Z f).natAbs == 6 && i / 2 == t)
def kR (Z : List Int) (t k f q : Nat) : Nat := kRs (lsR Z t f q) k 4
/-- The rights that are left are the program's. -/
theorem kR_eq {p : Ps} (hM : MayP p) {m : Nat × Nat × Nat} (hO : MvOk p m) : kR p.Z p.t p.k m.1 m.2.1 = anN p.k (lsN m.1 m.2.1 4) := by
  have k16 : p.k < 16 := by have := hM.k15; omega
  unfold kR
  rw [kRs_four _ k16]
  have hK := kf_kg hM.st p.t
  refine eq16 (an_lt k16 (mk4_lt _ _ _ _)) (an_lt k16 (ls_lt _ _)) (fun i hi => ?_)
  rw [← bitB_nat (an_lt k16 (mk4_lt _ _ _ _)) hi, ← bitB_nat (an_lt k16 (ls_lt _ _)) hi, an_bit k16 (mk4_lt _ _ _ _) hi, an_bit k16 (ls_lt _ _) hi, mk4_bit _ _ _ _ i hi, lsN_bit _ _ _ _ hi, ← L4_of (lsR p.Z p.t m.1 m.2.1) i hi]
  cases hb : bitB ((p.k : Nat) : Int) i with
  | false => rfl
  | true =>
    rw [Bool.true_and, Bool.true_and]
    congr 1
    obtain ⟨hzk, hzr⟩ := hM.cas.2.2 i hi hb
    have hsd : sdP i = i / 2 := by
      match i, hi with
      | 0, _ => rfl
      | 1, _ => rfl
      | 2, _ => rfl
      | 3, _ => rfl
    have hkl : kgP i < 64 := (cas_pl hi).2.2.1
    have hkey : ((zg p.Z m.1).natAbs == 6 && i / 2 == p.t) = (m.1 == kgP i) := by
      rw [Bool.eq_iff_iff, Bool.and_eq_true, beq_iff_eq, beq_iff_eq, beq_iff_eq]
      have hown := own_pc (of_decide_eq_true hO.own)
      constructor
      · rintro ⟨h6, ht⟩
        have h1 : zg p.Z m.1 = pc p.t 6 := by rw [hown, h6]
        have e1 := (hK.2 m.1 hO.f).1 h1
        have e2 := (hK.2 (kgP i) hkl).1 (by rw [hzk, hsd, ht])
        omega
      · intro e
        have h1 : zg p.Z m.1 = pc (sdP i) 6 := by rw [e]; exact hzk
        have h2 : 0 < pci p.t (zg p.Z m.1) := of_decide_eq_true hO.own
        have ht := hM.t1
        have hs1 : sdP i ≤ 1 := by rw [hsd]; omega
        rw [h1] at h2 ⊢
        have hp : ∀ s, s ≤ 1 → pc s 6 = if s = 0 then 6 else -6 := by
          intro s hs
          rcases (show s = 0 ∨ s = 1 by omega) with rfl | rfl <;> rfl
        rw [hp _ hs1] at h2 ⊢
        unfold pci at h2
        rw [← hsd]
        constructor
        · split <;> rfl
        · revert h2
          split <;> split <;> omega
    unfold lsR lsB
    rw [hkey]
    cases (m.1 == kgP i) <;> cases (m.1 == rkP i) <;> cases (m.2.1 == rkP i) <;> rfl

end Go.Proofs.YtdmlamnonbmboaaDoor
