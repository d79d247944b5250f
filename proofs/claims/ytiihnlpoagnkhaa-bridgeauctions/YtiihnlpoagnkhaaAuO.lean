/-
  What the reference's AuctionOf answers. No conditions beyond those that each theorem bears.
-/
import Derived.Test.YtiihnlpoagnkhaaAuC
import Derived.Test.YtiihnlpoagnkhaaAuR
namespace Go.Proofs.Ytiihnlpoagnkhaa
open Go.RowKit

theorem rfS_succ (zs : List Int) (j : Nat) (z b d : Int) (hz : zs.getD j 0 = z) (h : rfS zs j = (b, d)) :
    rfS zs (j + 1) = (let r2 := if 3 ≤ z then ((j : Int), (0 : Int)) else (b, d); if z = 1 ∨ z = 2 then (r2.1, z) else r2) := by
  simp only [rfS, h, hz]

/-- The way back from the last bid: what was the first of its strain. -/
structure Back (zs : List Int) (bid p f : Nat) (i : Int) : Prop where
  is : isOf zs bid p f
  le : f ≤ p
  no : ∀ j : Nat, i < j → j < f → ¬ isOf zs bid p j
  gt : i < (f : Int) ∨ i = f

set_option maxRecDepth 100000 in
set_option maxHeartbeats 4000000 in
theorem AuctionOf_any (a : Option Addr) (n c : Nat) (zs : List Int) (w : World) (h : Rd w a n c zs) :
    Calls Try.prog 14 #[.slice a n c] w fun e w' => ∃ l s d k E, AucOut zs l s d k E ∧ e = .returned (.tuple #[.agg #[.int .i64 l, .int .i64 s, .int .i64 d, .int .i64 k], .int .i64 E]) ∧ Below w.heap.size w w' := by
  have hcm := h.max
  have hcn := h.cap
  have hlen := h.len
  unfold maxLen at hcm
  have HL := hide hlen
  have HH := hide h
  obtain ⟨w1, hw1⟩ : ∃ w1, w.alloc (Obj.cells #[.int .i64 0, .int .i64 0, .int .i64 0, .int .i64 0] 34) = w1 := ⟨_, rfl⟩
  have B1 : Below w.heap.size w w1 := by rw [← hw1]; exact (Below.refl _ w).alloc (Nat.le_refl _) _
  have C1 : Ct w1 w.heap.size 0 0 0 0 := by rw [← hw1]; exact Blk.new w 34 [0, 0, 0, 0] _ rfl
  have HB1 := hide B1
  have HC1 := hide C1
  have HR1 := hide (h.mono B1)
  have STORE : Hid (∀ q l s d k : Nat, Ct (((((w1.drewN q).setCell ⟨w.heap.size, 0, none⟩ (.int .i64 l)).setCell ⟨w.heap.size, 1, none⟩ (.int .i64 s)).setCell ⟨w.heap.size, 2, none⟩ (.int .i64 d)).setCell ⟨w.heap.size, 3, none⟩ (.int .i64 k)) w.heap.size l s d k ∧
      Below w.heap.size w (((((w1.drewN q).setCell ⟨w.heap.size, 0, none⟩ (.int .i64 l)).setCell ⟨w.heap.size, 1, none⟩ (.int .i64 s)).setCell ⟨w.heap.size, 2, none⟩ (.int .i64 d)).setCell ⟨w.heap.size, 3, none⟩ (.int .i64 k))) := hide (fun q l s d k =>
    ⟨Blk.set (Blk.set (Blk.set (Blk.set (w := w1.drewN q) C1 0 l) 1 s) 2 d) 3 k, ((((B1.trans (drewN_below _ _ q)).setCell (p := ⟨w.heap.size, 0, none⟩) (Nat.le_refl _) _).setCell (p := ⟨w.heap.size, 1, none⟩) (Nat.le_refl _) _).setCell (p := ⟨w.heap.size, 2, none⟩) (Nat.le_refl _) _).setCell (p := ⟨w.heap.size, 3, none⟩) (Nat.le_refl _) _⟩)
  obtain ⟨q0, q1, q2, q3⟩ := C1.cells
  have f0 := Blk.frozen C1 0
  have f1 := Blk.frozen C1 1
  have f2 := Blk.frozen C1 2
  have f3 := Blk.frozen C1 3
  clear h B1 C1 hlen
  go_enter Try.func14, Try.ntmps14
  go_wp2
  clear hw1
  go_loopw [4] (fun v wr => ∃ (k q : Nat) (s : AS), v = .int .i64 k ∧ k ≤ n ∧ wr = w1.drewN q ∧ Hid (AInv zs k s) ∧ Hid (auRun zs 0 ⟨0, 0, 0, 0⟩ = auRun (zs.drop k) k s)) (fun v _ => n - (intOf v).toNat)
  case atStart => exact ⟨0, 0, _, rfl, by omega, rfl, AInv.start zs, rfl⟩
  case round =>
    obtain ⟨k, q, s, rfl, hk, hwr, hI, hrun⟩ := hrel
    have HWR := hide hwr
    have HRr := hide (show Rd wr a n c zs by rw [hwr]; exact HR1.out.mono (drewN_below _ _ q))
    have Cr : Ct wr w.heap.size 0 0 0 0 := by rw [hwr]; exact HC1.out
    obtain ⟨y0, y1, y2, y3⟩ := Cr.cells
    have g0 := Blk.frozen Cr 0
    have g1 := Blk.frozen Cr 1
    have g2 := Blk.frozen Cr 2
    have g3 := Blk.frozen Cr 3
    clear Cr
    have ST1 := hide (STORE.out q)
    have ST2 := hide (fun nq => STORE.out (q + nq))
    rw [← hwr] at ST1
    have hwn : ∀ nq, w1.drewN (q + nq) = wr.drewN nq := fun nq => by rw [hwr, World.drewN_drewN]
    simp only [hwn] at ST2
    have HWN := hide hwn
    clear hwn hwr q0 q1 q2 q3 f0 f1 f2 f3
    by_cases hlt : k < n
    · have hlt' : (k : Int) < (n : Int) := by omega
      have hkc : (k : Int) ≤ (c : Int) := by omega
      have RDk := hide (HRr.out.upto (k := k) (by omega))
      obtain ⟨b, off, ha, hc⟩ := HRr.out.cells (by omega)
      subst ha
      have r1 := hc k hlt
      clear hc
      have hkl : k < zs.length := by rw [HL.out]; exact hlt
      have HD := hide (auRun_drop zs k hkl s)
      have HST := hide (fun hf => hI.out.step hkl hf)
      obtain ⟨z, hz⟩ : ∃ z, zs.getD k 0 = z := ⟨_, rfl⟩
      rw [hz] at r1 HD HST
      clear hz
      have HO : Hid (s.flt z (k % 4) ≠ 0 → ∀ E, E = s.flt z (k % 4) → AucOut zs 0 0 0 0 E) := hide (fun hf E hE => by
          have h2 : (auRun zs 0 ⟨0, 0, 0, 0⟩).2 = s.flt z (k % 4) := by rw [hrun.out, HD.out, if_neg hf]
          exact ⟨fun _ => ⟨rfl, rfl, rfl, rfl, by rw [h2, hE]⟩, fun h0 => absurd (h2.symm.trans h0) hf, fun h0 => absurd (h2.symm.trans h0) hf, fun h0 => absurd (h2.symm.trans h0) hf⟩)
      have WI := hide (within_any z 0 37)
      have OV := hide (over_any (some ⟨b, off, none⟩) k c zs (zs.take k) (fun j hj => getD_take zs k j hj) wr RDk.out)
      rw [← hI.out.over_iff] at OV
      by_cases hr : 0 ≤ z ∧ z ≤ 37
      · rw [decide_eq_true hr] at WI
        have MA := hide (fun W (hW : Rd W (some ⟨b, off, none⟩) k c (zs.take k)) => callMay_any (some ⟨b, off, none⟩) k c zs (zs.take k) (fun j hj => getD_take zs k j hj) (k - s.pas) (by omega) (fun j h1 h2 => hI.out.tail j h1 h2) (fun hp => hI.out.non (by omega)) z hr.1 W hW)
        rw [← hI.out.may z hr.1] at MA
        have MB := hide (fun q' => MA.out (wr.drewN q') (RDk.out.mono (drewN_below _ _ q')))
        clear MA
        cases ho : s.over with
        | true =>
          rw [ho] at OV
          have hfl : s.flt z (k % 4) = 9 := by rw [AS.flt, if_neg (by omega), if_pos ho]
          clear ho
          have HO9 := hide (HO.out (by rw [hfl]; omega) 9 hfl.symm)
          have HS1' := hide (ST1.out 0 0 0 0).1
          have HS2' := hide (ST1.out 0 0 0 0).2
          clear hfl HO HD HST
          go_wp2_with fail
          refine (WI.out _).mono ?_
          rintro e w2 ⟨rfl, hw⟩
          subst w2
          go_wp2_with fail
          refine OV.out.mono ?_
          rintro e w2 ⟨rfl, hw⟩
          subst w2
          go_wp2
          obtain ⟨u0, u1, u2, u3⟩ := Ct.cells HS1'.out
          exact bodyPost_ret (results_ct rfl _ _ w.heap.size rfl 0 0 0 0 u0 u1 u2 u3) rfl ⟨0, 0, 0, 0, 9, HO9.out, rfl, HS2'.out⟩
        | false =>
          rw [ho] at OV
          cases hal : s.allow z (k % 4) with
          | true =>
            rw [hal] at MB
            have hfl : s.flt z (k % 4) = 0 := by rw [AS.flt, if_neg (by omega), if_neg (by rw [ho]; simp), if_pos hal]
            have HI2 := hide (HST.out hfl)
            have HR2 : Hid (auRun zs 0 ⟨0, 0, 0, 0⟩ = auRun (zs.drop (k + 1)) (k + 1) (s.take z.toNat (k % 4))) := hide (by rw [hrun.out, HD.out, if_pos hfl])
            clear hfl ho hal HO HD HST
            go_wp2_with fail
            refine (WI.out _).mono ?_
            rintro e w2 ⟨rfl, hw⟩
            subst w2
            go_wp2_with fail
            refine OV.out.mono ?_
            rintro e w2 ⟨rfl, hw⟩
            subst w2
            go_wp2_with fail
            go_quiet ((go_at_call 35; exact Calls.quiet_of_same (MB.out _)))
            go_wp2
            go_roundw
            case rel => exact ⟨k + 1, _, _, by go_num, by omega, (HWN.out _).symm, HI2, HR2⟩
            case measure => simp [intOf]; omega
          | false =>
            rw [hal] at MB
            have hfl : s.flt z (k % 4) = 8 := by rw [AS.flt, if_neg (by omega), if_neg (by rw [ho]; simp), if_neg (by rw [hal]; simp)]
            clear ho hal
            have HO8 := hide (HO.out (by rw [hfl]; omega) 8 hfl.symm)
            clear hfl HO HD HST
            go_wp2_with fail
            refine (WI.out _).mono ?_
            rintro e w2 ⟨rfl, hw⟩
            subst w2
            go_wp2_with fail
            refine OV.out.mono ?_
            rintro e w2 ⟨rfl, hw⟩
            subst w2
            go_wp2_with fail
            go_quiet ((go_at_call 35; exact Calls.quiet_of_same (MB.out _)))
            go_wp2
            obtain ⟨u0, u1, u2, u3⟩ := Ct.cells (ST2.out _ 0 0 0 0).1
            exact bodyPost_ret (results_ct rfl _ _ w.heap.size rfl 0 0 0 0 u0 u1 u2 u3) rfl ⟨0, 0, 0, 0, 8, HO8.out, rfl, (ST2.out _ 0 0 0 0).2⟩
      · rw [decide_eq_false hr] at WI
        have hfl : s.flt z (k % 4) = 3 := by rw [AS.flt, if_pos (by omega)]
        have HO3 := hide (HO.out (by rw [hfl]; omega) 3 hfl.symm)
        have HS1' := hide (ST1.out 0 0 0 0).1
        have HS2' := hide (ST1.out 0 0 0 0).2
        clear hfl HO HD HST
        go_wp2_with fail
        refine (WI.out _).mono ?_
        rintro e w2 ⟨rfl, hw⟩
        subst w2
        go_wp2
        obtain ⟨u0, u1, u2, u3⟩ := Ct.cells HS1'.out
        exact bodyPost_ret (results_ct rfl _ _ w.heap.size rfl 0 0 0 0 u0 u1 u2 u3) rfl ⟨0, 0, 0, 0, 3, HO3.out, rfl, HS2'.out⟩
    · obtain rfl : k = n := by omega
      have hlt' : ¬ (k : Int) < (k : Int) := by omega
      have hr2 : auRun zs 0 ⟨0, 0, 0, 0⟩ = (s, 0) := by
        rw [hrun.out, List.drop_eq_nil_of_le (by rw [HL.out]; exact Nat.le_refl _)]; rfl
      have OV := hide (over_any a k c zs zs (fun j hj => rfl) wr HRr.out)
      rw [← hI.out.over_iff] at OV
      cases ho : s.over with
      | false =>
        rw [ho] at OV
        have HO : Hid (AucOut zs 0 0 0 0 13) := hide ⟨fun h0 => absurd (by rw [hr2]) h0, fun _ _ => ⟨rfl, rfl, rfl, rfl, rfl⟩, fun _ h1 => absurd h1 (by rw [hr2]; simp [ho]), fun _ h1 => absurd h1 (by rw [hr2]; simp [ho])⟩
        clear hr2 ho
        go_wp2_with fail
        refine OV.out.mono ?_
        rintro e w2 ⟨rfl, hw⟩
        subst w2
        go_wp2
        obtain ⟨u0, u1, u2, u3⟩ := Ct.cells (ST1.out 0 0 0 0).1
        exact bodyPost_ret (results_ct rfl _ _ w.heap.size rfl 0 0 0 0 u0 u1 u2 u3) rfl ⟨0, 0, 0, 0, 13, HO.out, rfl, (ST1.out 0 0 0 0).2⟩
      | true =>
        have h4 : 4 ≤ k := by
          have := hI.out.over_iff
          rw [ho] at this
          have := of_decide_eq_true this.symm
          exact this.1
        rw [ho] at OV
        have HHO := hide ho
        have HR2 := hide hr2
        obtain ⟨b, off, ha, hc⟩ := HRr.out.cells (by omega)
        subst ha
        have HC := hide hc
        clear hr2 ho hc
        go_wp2_with fail
        refine OV.out.mono ?_
        rintro e w2 ⟨rfl, hw⟩
        subst w2
        go_wp2
        go_loop [5, 6, 7] (fun x y i => ∃ (j : Nat) (B D : Int), j ≤ k ∧ i = .int .i64 j ∧ x = .int .i64 B ∧ y = .int .i64 D ∧ Hid (rfS zs j = (B, D))) (fun _ _ i => k - (intOf i).toNat)
        case atStart => exact ⟨0, -1, 0, by omega, rfl, rfl, rfl, rfl⟩
        case round =>
          obtain ⟨j, B, D, hj, rfl, rfl, rfl, hrf⟩ := hrel
          by_cases hjk : j < k
          · have hjk' : (j : Int) < (k : Int) := by omega
            have r1 := HC.out j hjk
            have HS := hide (fun z hz => rfS_succ zs j z B D hz hrf.out)
            have hzr := hI.out.rng j hjk
            obtain ⟨z, hz⟩ : ∃ z, zs.getD j 0 = z := ⟨_, rfl⟩
            have HS2 := hide (HS.out z hz)
            rw [hz] at r1 hzr
            clear HS hz
            by_cases z3 : 3 ≤ z
            · have n1 : (z == 1) = false := by simp; omega
              have n2 : (z == 2) = false := by simp; omega
              have HN : Hid (rfS zs (j + 1) = ((j : Int), 0)) := hide (by rw [HS2.out]; simp only [z3, if_true]; rw [if_neg (by omega)])
              go_wp2
              go_round
              case rel => exact ⟨j + 1, j, 0, by omega, by go_num, rfl, rfl, HN⟩
              case measure => simp [intOf]; omega
            · by_cases z1 : z = 1
              · subst z1
                have HN : Hid (rfS zs (j + 1) = (B, 1)) := hide (by rw [HS2.out]; simp)
                go_wp2
                go_round
                case rel => exact ⟨j + 1, B, 1, by omega, by go_num, rfl, rfl, HN⟩
                case measure => simp [intOf]; omega
              · have n1 : (z == 1) = false := by simp; omega
                by_cases z2 : z = 2
                · subst z2
                  have HN : Hid (rfS zs (j + 1) = (B, 2)) := hide (by rw [HS2.out]; simp)
                  go_wp2
                  go_round
                  case rel => exact ⟨j + 1, B, 2, by omega, by go_num, rfl, rfl, HN⟩
                  case measure => simp [intOf]; omega
                · have n2 : (z == 2) = false := by simp; omega
                  have HN : Hid (rfS zs (j + 1) = (B, D)) := hide (by rw [HS2.out]; simp only [z3, if_false]; rw [if_neg (by omega)])
                  go_wp2
                  go_round
                  case rel => exact ⟨j + 1, B, D, by omega, by go_num, rfl, rfl, HN⟩
                  case measure => simp [intOf]; omega
          · obtain rfl : j = k := by omega
            have hD := hI.out.rf2
            rw [hrf.out] at hD
            simp only at hD
            by_cases hb0 : s.bid = 0
            · have hB := (hI.out.none hb0).2.2
              rw [hrf.out] at hB
              simp only at hB
              subst hB
              have HO : Hid (AucOut zs 0 0 0 0 10) := hide ⟨fun h0 => absurd (by rw [HR2.out]) h0, fun _ h1 => absurd h1 (by rw [HR2.out]; simp [HHO.out]), fun _ _ _ => ⟨rfl, rfl, rfl, rfl, rfl⟩, fun _ _ h2 => absurd (by rw [HR2.out]; exact hb0) h2⟩
              clear hb0 hD
              go_wp2
              obtain ⟨u0, u1, u2, u3⟩ := Ct.cells (ST1.out 0 0 0 0).1
              exact bodyPost_ret (results_ct rfl _ _ w.heap.size rfl 0 0 0 0 u0 u1 u2 u3) rfl ⟨0, 0, 0, 0, 10, HO.out, rfl, (ST1.out 0 0 0 0).2⟩
            · obtain ⟨t1, t2, t3, p, p1, p2, p3, p4, p5, p6, _⟩ := hI.out.some hb0
              rw [hrf.out] at p4
              simp only at p4
              subst p4 hD
              have HO : Hid (∀ i, IsFirst zs s.bid s.bidder i → AucOut zs (((s.bid : Int) - 3) / 5 + 1) (((s.bid : Int) - 3) % 5) s.dbl (i % 4 : Nat) 0) := hide (fun i hi => ⟨fun h0 => absurd (by rw [HR2.out]) h0, fun _ h1 => absurd h1 (by rw [HR2.out]; simp [HHO.out]), fun _ _ h2 => absurd h2 (by rw [HR2.out]; exact hb0), fun _ _ _ => by rw [HR2.out]; exact ⟨rfl, rfl, rfl, rfl, i, hi, rfl⟩⟩)
              have hpk : p < j := by omega
              have hpk' : (p : Int) < (j : Int) := by omega
              have r1 := HC.out p hpk
              rw [p2] at r1
              have m1 : Int.tmod ((s.bid : Int) - 3) 5 = ((s.bid : Int) - 3) % 5 := Int.tmod_eq_emod_of_nonneg (by omega)
              have m2 : Int.tdiv ((s.bid : Int) - 3) 5 = ((s.bid : Int) - 3) / 5 := Int.tdiv_eq_ediv_of_nonneg (by omega)
              have BK0 : Hid (Back zs s.bid p p p) := hide ⟨⟨by rw [p2]; omega, by rw [p2], rfl⟩, Nat.le_refl _, fun i h1 h2 => by omega, Or.inr rfl⟩
              have HP3 := hide p3
              obtain ⟨L, hL⟩ : ∃ L : Nat, ((s.bid : Int) - 3) / 5 = L := ⟨(((s.bid : Int) - 3) / 5).toNat, by omega⟩
              obtain ⟨T, hT⟩ : ∃ T : Nat, ((s.bid : Int) - 3) % 5 = T := ⟨(((s.bid : Int) - 3) % 5).toNat, by omega⟩
              have HTT := hide hT
              have HLL := hide hL
              rw [hT] at m1 HO
              rw [hL] at m2 HO
              have hT5 : T < 5 := by omega
              have hL7 : L < 7 := by omega
              clear hb0 p1 p3 p5 p6 hL hT
              go_wp2
              go_loop [9, 10] (fun x i => ∃ (f : Nat) (I : Int), x = .int .i64 f ∧ i = .int .i64 I ∧ -2 ≤ I ∧ I ≤ p ∧ Hid (I % 2 = (p : Int) % 2) ∧ Hid (Back zs s.bid p f I)) (fun _ i => (intOf i + 2).toNat)
              case atStart => exact ⟨p, p, rfl, rfl, by omega, by omega, rfl, BK0⟩
              case round =>
                obtain ⟨f, I, rfl, rfl, hI2, hIp, hpar, hbk⟩ := hrel
                by_cases h0 : 0 ≤ I
                · obtain ⟨i0, rfl⟩ : ∃ i0 : Nat, I = i0 := ⟨I.toNat, by omega⟩
                  have hik : i0 < j := by omega
                  have hik' : (i0 : Int) < (j : Int) := by omega
                  have r2 := HC.out i0 hik
                  have hzr := hI.out.rng i0 hik
                  have HOF : Hid (isOf zs s.bid p i0 ↔ 3 ≤ zs.getD i0 0 ∧ (zs.getD i0 0 - 3) % 5 = T) := hide ⟨fun hh => ⟨hh.1, by rw [hh.2.1, HTT.out]⟩, fun hh => ⟨hh.1, by rw [hh.2, HTT.out], by have := hpar.out; omega⟩⟩
                  obtain ⟨z, hz⟩ : ∃ z, zs.getD i0 0 = z := ⟨_, rfl⟩
                  rw [hz] at r2 hzr HOF
                  clear hz
                  have HOD : Hid (∀ jj : Nat, (i0 : Int) - 2 < jj → jj < i0 → ¬ isOf zs s.bid p jj) := hide (fun jj h1 h2 hh => by have := hh.2.2; have := hpar.out; omega)
                  have HPA : Hid (((i0 : Int) - 2) % 2 = (p : Int) % 2) := hide (by have := hpar.out; omega)
                  have HNO : Hid (¬ isOf zs s.bid p i0 → Back zs s.bid p f ((i0 : Int) - 2)) := hide (fun hn => ⟨hbk.out.is, hbk.out.le, fun jj h1 h2 => by
                    by_cases e : jj = i0
                    · subst e; exact hn
                    · by_cases e2 : jj < i0
                      · exact HOD.out jj h1 e2
                      · exact hbk.out.no jj (by omega) h2, by have := hbk.out.gt; omega⟩)
                  by_cases z3 : 3 ≤ z
                  · have dz : decide ((3 : Int) ≤ z) = true := by simp; omega
                    have tz : Int.tmod (z - 3) 5 = (z - 3) % 5 := Int.tmod_eq_emod_of_nonneg (by omega)
                    obtain ⟨v, hv⟩ : ∃ v, (z - 3) % 5 = v := ⟨_, rfl⟩
                    rw [hv] at tz
                    by_cases hvT : v = (T : Int)
                    · subst hvT
                      have HN : Hid (Back zs s.bid p i0 ((i0 : Int) - 2)) := hide ⟨HOF.out.2 ⟨z3, hv⟩, by omega, HOD.out, by omega⟩
                      have bT : ((T : Int) == (T : Int)) = true := by simp
                      go_wp2
                      go_round
                      case rel => exact ⟨i0, (i0 : Int) - 2, rfl, by go_num, by omega, by omega, HPA, HN⟩
                      case measure => simp [intOf]; omega
                    · have bT : (v == (T : Int)) = false := by simpa using hvT
                      have HN := hide (HNO.out (fun hh => hvT (hv.symm.trans (HOF.out.1 hh).2)))
                      go_wp2
                      go_round
                      case rel => exact ⟨f, (i0 : Int) - 2, rfl, by go_num, by omega, by omega, HPA, HN⟩
                      case measure => simp [intOf]; omega
                  · have dz : decide ((3 : Int) ≤ z) = false := by simp; omega
                    have HN := hide (HNO.out (fun hh => z3 (HOF.out.1 hh).1))
                    go_wp2
                    go_round
                    case rel => exact ⟨f, (i0 : Int) - 2, rfl, by go_num, by omega, by omega, HPA, HN⟩
                    case measure => simp [intOf]; omega
                · have hfp := hbk.out.le
                  have HF : Hid (IsFirst zs s.bid s.bidder f) := hide ⟨by rw [HL.out]; omega, ⟨hbk.out.is.1, hbk.out.is.2.1, by rw [HP3.out]; have := hbk.out.is.2.2; omega⟩, fun jj hjj hh => hbk.out.no jj (by omega) hjj ⟨hh.1, hh.2.1, by have := hh.2.2; rw [HP3.out] at this; omega⟩⟩
                  have HOf := hide (HO.out f HF.out)
                  have tf : Int.tmod (f : Int) 4 = ((f % 4 : Nat) : Int) := by rw [Int.tmod_eq_emod_of_nonneg (by omega)]; omega
                  obtain ⟨m, hm⟩ : ∃ m, f % 4 = m := ⟨_, rfl⟩
                  rw [hm] at tf HOf
                  have tf2 : (f : Int) % 4 = (m : Int) := by omega
                  obtain ⟨L1, hL1⟩ : ∃ L1, L + 1 = L1 := ⟨_, rfl⟩
                  have eL : (L : Int) + 1 = (L1 : Int) := by omega
                  rw [eL] at HOf
                  clear hL1
                  clear hm
                  go_wp2
                  obtain ⟨u0, u1, u2, u3⟩ := Ct.cells (ST1.out L1 T s.dbl m).1
                  exact bodyPost_ret (results_ct rfl _ _ w.heap.size rfl _ _ _ _ u0 u1 u2 u3) rfl ⟨_, _, _, _, 0, HOf.out, rfl, (ST1.out L1 T s.dbl m).2⟩

end Go.Proofs.Ytiihnlpoagnkhaa
