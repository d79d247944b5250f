/-
  What bridge.Auction answers. No conditions beyond those that each theorem bears.
-/
import Derived.Test.YtiihnlpoagnkhaaDecl
import Derived.Deep.RegionHeld3
namespace Go.Proofs.Ytiihnlpoagnkhaa
open Go.RowKit

/-- A block with a contract. -/
def Ct (w : World) (b : Nat) (l s d k : Nat) : Prop := Blk w b 34 [l, s, d, k]

theorem Ct.cells {w : World} {b l s d k : Nat} (h : Ct w b l s d k) : w.cell? ⟨b, 0, none⟩ = some (.int .i64 l) ∧ w.cell? ⟨b, 1, none⟩ = some (.int .i64 s) ∧ w.cell? ⟨b, 2, none⟩ = some (.int .i64 d) ∧ w.cell? ⟨b, 3, none⟩ = some (.int .i64 k) :=
  ⟨Blk.cell (i := 0) h (by simp), Blk.cell (i := 1) h (by simp), Blk.cell (i := 2) h (by simp), Blk.cell (i := 3) h (by simp)⟩

theorem load34 (w : World) (b : Nat) (l s d k : Int) (h0 : w.cell? ⟨b, 0, none⟩ = some (.int .i64 l)) (h1 : w.cell? ⟨b, 1, none⟩ = some (.int .i64 s)) (h2 : w.cell? ⟨b, 2, none⟩ = some (.int .i64 d)) (h3 : w.cell? ⟨b, 3, none⟩ = some (.int .i64 k)) :
    (loadVar 34 ⟨b, 0, none⟩).run Try.prog w = .ok (.agg #[.int .i64 l, .int .i64 s, .int .i64 d, .int .i64 k]) w := by
  have RG : w.rangeAt b 0 [.int .i64 l, .int .i64 s, .int .i64 d, .int .i64 k] := by
    intro j u hu
    have hj : j < 4 := by have := (List.getElem?_eq_some_iff.1 hu).1; simpa using this
    rcases (by omega : j = 0 ∨ j = 1 ∨ j = 2 ∨ j = 3) with rfl | rfl | rfl | rfl <;> · simp at hu; subst hu; first | exact h0 | exact h1 | exact h2 | exact h3
  exact run_loadVar_mid (P := Try.prog) w b 0 34 _ _ RG Try.underlying34 rfl (by kernel_rfl)

theorem results_ct {fn : Func} {t u : Tmp} (h : fn.results = #[.cell t 34, .tmp u]) (tmps : Array Value) (w : World) (b : Nat) (hb : tmps.getD t undef = .pointer (some ⟨b, 0, none⟩)) (l s d k : Int)
    (h0 : w.cell? ⟨b, 0, none⟩ = some (.int .i64 l)) (h1 : w.cell? ⟨b, 1, none⟩ = some (.int .i64 s)) (h2 : w.cell? ⟨b, 2, none⟩ = some (.int .i64 d)) (h3 : w.cell? ⟨b, 3, none⟩ = some (.int .i64 k)) :
    (results fn tmps).run Try.prog w = .ok (.tuple #[.agg #[.int .i64 l, .int .i64 s, .int .i64 d, .int .i64 k], tmps.getD u undef]) w := by
  have hl := load34 w b l s d k h0 h1 h2 h3
  have hb' : tmps[t]?.getD undef = .pointer (some ⟨b, 0, none⟩) := by simpa using hb
  have ha : (asAddr (.pointer (some ⟨b, 0, none⟩))).run Try.prog w = .ok ⟨b, 0, none⟩ w := rfl
  simp [results, h, hb', ha, hl, Sem.run_bind, Result.andThen]

theorem Blk.below {w w' : World} {b t base : Nat} {L : List Nat} (h : Blk w b t L) (hB : Below base w w') (hb : b < base) : Blk w' b t L :=
  (hB.block b hb).trans h

theorem Blk.far {w : World} {b t : Nat} {L : List Nat} {p : Addr} {v : Value} (h : Blk w b t L) (hp : p.block ≠ b) : Blk (w.setCell p v) b t L := by
  have h' : w.heap[b]? = _ := h
  simp [Blk, World.setCell, Array.getElem?_modify, hp, h']

theorem set4 (M : List Nat) (a b c d : Nat) (h : M.length = 4) : (((M.set 0 a).set 1 b).set 2 c).set 3 d = [a, b, c, d] := by
  match M, h with
  | [_, _, _, _], _ => rfl

set_option maxRecDepth 100000 in
set_option maxHeartbeats 2000000 in
theorem Auction_any (a : Option Addr) (n c : Nat) (zs : List Int) (w : World) (h : Rd w a n c zs) :
    Calls Try.prog 13 #[.slice a n c] w fun e w' => ∃ l s d k E, AucOut zs l s d k E ∧ e = .returned (.tuple #[.agg #[.int .i64 l, .int .i64 s, .int .i64 d, .int .i64 k], .int .i64 E]) ∧ Below w.heap.size w w' := by
  have hcm := h.max
  have hcn := h.cap
  have hlen := h.len
  unfold maxLen at hcm
  have HL := hide hlen
  have HH := hide h
  obtain ⟨w1, hw1⟩ : ∃ w1, (w.alloc (Obj.cells #[.int .i64 0, .int .i64 0, .int .i64 0, .int .i64 0] 34)).alloc (Obj.cells #[.int .i64 0, .int .i64 0, .int .i64 0, .int .i64 0] 49) = w1 := ⟨_, rfl⟩
  have B1 : Below w.heap.size w w1 := by rw [← hw1]; exact ((Below.refl _ w).alloc (Nat.le_refl _) _).alloc (by simp [World.size_alloc]) _
  have C1 : Ct w1 w.heap.size 0 0 0 0 := by rw [← hw1]; exact (Blk.new w 34 [0, 0, 0, 0] _ rfl).old _
  have A1 : Au w1 (w.heap.size + 1) ⟨0, 0, 0, 0⟩ := by
    rw [← hw1]
    have := Blk.new (w.alloc (Obj.cells #[.int .i64 0, .int .i64 0, .int .i64 0, .int .i64 0] 34)) 49 [0, 0, 0, 0] _ rfl
    rw [World.size_alloc] at this
    exact this
  have HB1 := hide B1
  have HC1 := hide C1
  have HA1 := hide A1
  clear h B1 C1 A1 hlen
  go_enter Try.func13, Try.ntmps13
  go_wp2
  clear hw1
  go_loopw [10] (fun v wr => ∃ (k : Nat) (s : AS), v = .int .i64 k ∧ k ≤ n ∧ Hid (AInv zs k s) ∧ Hid (auRun zs 0 ⟨0, 0, 0, 0⟩ = auRun (zs.drop k) k s) ∧ Hid (Au wr (w.heap.size + 1) s) ∧ Hid (Ct wr w.heap.size 0 0 0 0) ∧ Hid (Below w.heap.size w wr)) (fun v _ => n - (intOf v).toNat)
  case atStart => exact ⟨0, _, rfl, by omega, AInv.start zs, rfl, HA1.out, HC1.out, HB1.out⟩
  case round =>
    clear HB1 HC1 HA1
    obtain ⟨k, s, rfl, hk, hI, hrun, hA, hC, hB⟩ := hrel
    by_cases hlt : k < n
    · have hlt' : (k : Int) < (n : Int) := by omega
      obtain ⟨b, off, ha, hc⟩ := HH.out.cells (by omega)
      subst ha
      have r1 : wr.cell? ⟨b, off + k, none⟩ = _ := (hB.out.cell (p := ⟨b, off + k, none⟩) (World.block_lt_of_cell? w _ (hc k hlt))).trans (hc k hlt)
      clear hc
      have hkl : k < zs.length := by rw [HL.out]; exact hlt
      have HD := hide (auRun_drop zs k hkl s)
      have HST := hide (fun hf => hI.out.step hkl hf)
      obtain ⟨z, hz⟩ : ∃ z, zs.getD k 0 = z := ⟨_, rfl⟩
      rw [hz] at r1 HD HST
      have FA := hide (fault_any (w.heap.size + 1) s z (k % 4) wr hA.out)
      have tk : Int.tmod (k : Int) 4 = ((k % 4 : Nat) : Int) := by rw [Int.tmod_eq_emod_of_nonneg (by omega)]; omega
      have tk' : (k : Int) % 4 = ((k % 4 : Nat) : Int) := by omega
      by_cases hf : s.flt z (k % 4) = 0
      · have hz0 : 0 ≤ z := by
          unfold AS.flt at hf
          by_cases hr : z < 0 ∨ 37 < z
          · rw [if_pos hr] at hf; omega
          · omega
        have HI2 := hide (HST.out hf)
        have HR2 : Hid (auRun zs 0 ⟨0, 0, 0, 0⟩ = auRun (zs.drop (k + 1)) (k + 1) (s.take z.toNat (k % 4))) := hide (by rw [hrun.out, HD.out, if_pos hf])
        rw [hf] at FA
        have TK := hide (take_any (w.heap.size + 1) s z.toNat (k % 4) (by have := hI.out.pas4; omega) (by have := hI.out.dbl; omega) wr hA.out (w.heap.size + 1) (Nat.le_refl _))
        rw [show ((z.toNat : Nat) : Int) = z by omega] at TK
        clear HST HD hz hf
        generalize k % 4 = km at *
        go_wp2_with fail
        refine FA.out.mono ?_
        rintro e w2 ⟨rfl, hw⟩
        subst w2
        go_wp2_with fail
        refine TK.out.mono ?_
        rintro e w3 ⟨rfl, hA3, hB3⟩
        have HC3 := hide (Blk.below hC.out hB3 (by omega))
        have HB3 := hide (hB.out.trans (hB3.mono (by omega)))
        have HA3 := hide hA3
        clear hA3 hB3
        go_wp2
        go_roundw
        case rel => exact ⟨k + 1, _, by go_num, by omega, HI2, HR2, HA3, HC3, HB3⟩
        case measure => simp [intOf]; omega
      · have HO : Hid (∀ E, E = s.flt z (k % 4) → AucOut zs 0 0 0 0 E) := hide (fun E hE => by
          have h2 : (auRun zs 0 ⟨0, 0, 0, 0⟩).2 = s.flt z (k % 4) := by rw [hrun.out, HD.out, if_neg hf]
          exact ⟨fun _ => ⟨rfl, rfl, rfl, rfl, by rw [h2, hE]⟩, fun h0 => absurd (h2.symm.trans h0) hf, fun h0 => absurd (h2.symm.trans h0) hf, fun h0 => absurd (h2.symm.trans h0) hf⟩)
        have bne : (s.flt z (k % 4) != 0) = true := by simpa using hf
        obtain ⟨q0, q1, q2, q3⟩ := hC.out.cells
        have f0 := Blk.frozen hC.out 0
        have f1 := Blk.frozen hC.out 1
        have f2 := Blk.frozen hC.out 2
        have f3 := Blk.frozen hC.out 3
        generalize s.flt z (k % 4) = E at *
        clear HST HD hz hf
        generalize k % 4 = km at *
        go_wp2_with fail
        refine FA.out.mono ?_
        rintro e w2 ⟨rfl, hw⟩
        subst w2
        go_wp2
        have K := hide (Blk.set (Blk.set (Blk.set (Blk.set hC.out 0 0) 1 0) 2 0) 3 0)
        have B4 := hide (((((hB.out).setCell (p := ⟨w.heap.size, 0, none⟩) (Nat.le_refl _) (.int .i64 0)).setCell (p := ⟨w.heap.size, 1, none⟩) (Nat.le_refl _) (.int .i64 0)).setCell (p := ⟨w.heap.size, 2, none⟩) (Nat.le_refl _) (.int .i64 0)).setCell (p := ⟨w.heap.size, 3, none⟩) (Nat.le_refl _) (.int .i64 0))
        obtain ⟨u0, u1, u2, u3⟩ := Ct.cells (l := 0) (s := 0) (d := 0) (k := 0) K.out
        exact bodyPost_ret (results_ct rfl _ _ w.heap.size rfl 0 0 0 0 u0 u1 u2 u3) rfl ⟨0, 0, 0, 0, E, HO.out E rfl, rfl, B4.out⟩
    · obtain rfl : k = n := by omega
      have hlt' : ¬ (k : Int) < (k : Int) := by omega
      have hr2 : auRun zs 0 ⟨0, 0, 0, 0⟩ = (s, 0) := by
        rw [hrun.out, List.drop_eq_nil_of_le (by rw [HL.out]; exact Nat.le_refl _)]; rfl
      have OV := hide (isOver_any (w.heap.size + 1) s wr hA.out)
      obtain ⟨q0, q1, q2, q3⟩ := hC.out.cells
      have f0 := Blk.frozen hC.out 0
      have f1 := Blk.frozen hC.out 1
      have f2 := Blk.frozen hC.out 2
      have f3 := Blk.frozen hC.out 3
      obtain ⟨p0, p1, p2, p3⟩ := hA.out.cells
      cases ho : s.over with
      | false =>
        rw [ho] at OV
        have HO : Hid (AucOut zs 0 0 0 0 13) := hide ⟨fun h0 => absurd (by rw [hr2]) h0, fun _ _ => ⟨rfl, rfl, rfl, rfl, rfl⟩, fun _ h1 => absurd h1 (by rw [hr2]; simp [ho]), fun _ h1 => absurd h1 (by rw [hr2]; simp [ho])⟩
        clear hr2 ho
        go_wp2_with fail
        refine OV.out.mono ?_
        rintro e w2 ⟨rfl, hw⟩
        subst w2
        go_wp2
        have K := hide (Blk.set (Blk.set (Blk.set (Blk.set hC.out 0 0) 1 0) 2 0) 3 0)
        have B4 := hide (((((hB.out).setCell (p := ⟨w.heap.size, 0, none⟩) (Nat.le_refl _) (.int .i64 0)).setCell (p := ⟨w.heap.size, 1, none⟩) (Nat.le_refl _) (.int .i64 0)).setCell (p := ⟨w.heap.size, 2, none⟩) (Nat.le_refl _) (.int .i64 0)).setCell (p := ⟨w.heap.size, 3, none⟩) (Nat.le_refl _) (.int .i64 0))
        obtain ⟨u0, u1, u2, u3⟩ := Ct.cells (l := 0) (s := 0) (d := 0) (k := 0) K.out
        exact bodyPost_ret (results_ct rfl _ _ w.heap.size rfl 0 0 0 0 u0 u1 u2 u3) rfl ⟨0, 0, 0, 0, 13, HO.out, rfl, B4.out⟩
      | true =>
        rw [ho] at OV
        by_cases hb0 : s.bid = 0
        · have HO : Hid (AucOut zs 0 0 0 0 10) := hide ⟨fun h0 => absurd (by rw [hr2]) h0, fun _ h1 => absurd h1 (by rw [hr2]; simp [ho]), fun _ _ _ => ⟨rfl, rfl, rfl, rfl, rfl⟩, fun _ _ h2 => absurd (by rw [hr2]; exact hb0) h2⟩
          rw [hb0] at p0
          clear hr2 ho hb0
          go_wp2_with fail
          refine OV.out.mono ?_
          rintro e w2 ⟨rfl, hw⟩
          subst w2
          go_wp2
          have K := hide (Blk.set (Blk.set (Blk.set (Blk.set hC.out 0 0) 1 0) 2 0) 3 0)
          have B4 := hide (((((hB.out).setCell (p := ⟨w.heap.size, 0, none⟩) (Nat.le_refl _) (.int .i64 0)).setCell (p := ⟨w.heap.size, 1, none⟩) (Nat.le_refl _) (.int .i64 0)).setCell (p := ⟨w.heap.size, 2, none⟩) (Nat.le_refl _) (.int .i64 0)).setCell (p := ⟨w.heap.size, 3, none⟩) (Nat.le_refl _) (.int .i64 0))
          obtain ⟨u0, u1, u2, u3⟩ := Ct.cells (l := 0) (s := 0) (d := 0) (k := 0) K.out
          exact bodyPost_ret (results_ct rfl _ _ w.heap.size rfl 0 0 0 0 u0 u1 u2 u3) rfl ⟨0, 0, 0, 0, 10, HO.out, rfl, B4.out⟩
        · obtain ⟨g1, g2, g3, _⟩ := hI.out.some hb0
          have bb : ((s.bid : Int) == 0) = false := by simp; omega
          have LV := hide (levelOf_any (s.bid : Int) (by omega) (by omega))
          have ST := hide (strainOf_any (s.bid : Int) (by omega) (by omega))
          have DE := hide (fun W (hW : Rd W a k c zs) => declarer_any a k c zs s hI.out hb0 W hW)
          have HO : Hid (∀ i, IsFirst zs s.bid s.bidder i → AucOut zs (((s.bid : Int) - 3) / 5 + 1) (((s.bid : Int) - 3) % 5) s.dbl (i % 4 : Nat) 0) := hide (fun i hi => ⟨fun h0 => absurd (by rw [hr2]) h0, fun _ h1 => absurd h1 (by rw [hr2]; simp [ho]), fun _ _ h2 => absurd h2 (by rw [hr2]; exact hb0), fun _ _ _ => by rw [hr2]; exact ⟨rfl, rfl, rfl, rfl, i, hi, rfl⟩⟩)
          obtain ⟨L, hL⟩ : ∃ L : Nat, ((s.bid : Int) - 3) / 5 + 1 = L := ⟨(((s.bid : Int) - 3) / 5 + 1).toNat, by omega⟩
          obtain ⟨T, hT⟩ : ∃ T : Nat, ((s.bid : Int) - 3) % 5 = T := ⟨(((s.bid : Int) - 3) % 5).toNat, by omega⟩
          rw [hL] at LV HO
          rw [hT] at ST HO
          clear hL hT hr2 ho
          go_wp2_with fail
          refine OV.out.mono ?_
          rintro e w2 ⟨rfl, hw⟩
          subst w2
          go_wp2_with fail
          -- the region
          have S0 : Below w.heap.size w wr.drew ∧ Au wr.drew (w.heap.size + 1) s ∧ ∃ L : List Nat, L.length = 4 ∧ Blk wr.drew w.heap.size 34 L := ⟨hB.out.drew, hA.out, _, rfl, hC.out⟩
          refine wp_region_held (S := fun W => Below w.heap.size w W ∧ Au W (w.heap.size + 1) s ∧ ∃ L : List Nat, L.length = 4 ∧ Blk W w.heap.size 34 L) (by kernel_rfl) ?_
          change wpAnyH _ _ _ _ _ _ _ _ (World.drew _)
          have SW := S0
          clear S0
          refine wpAnyH_take (i := 0) (v := .pointer (some ⟨w.heap.size + 1, 0, none⟩)) rfl (by kernel_rfl) (by kernel_rfl) (by kernel_rfl) (fun _ _ _ h => h) (Or.inl ⟨by rfl, ?_⟩) SW ?_
          · intro W hW
            go_simp
          go_simp
          refine wpAnyH_take (i := 3) (v := .pointer (some ⟨w.heap.size + 1, 0, none⟩)) rfl (by kernel_rfl) (by kernel_rfl) (by kernel_rfl) (fun _ _ _ h => h) (Or.inl ⟨by rfl, ?_⟩) SW ?_
          · intro W hW
            go_simp
          go_simp
          refine wpAnyH_take (i := 6) (v := .pointer (some ⟨w.heap.size + 1, 2, none⟩)) rfl (by kernel_rfl) (by kernel_rfl) (by kernel_rfl) (fun _ _ _ h => h) (Or.inl ⟨by rfl, ?_⟩) SW ?_
          · intro W hW
            go_simp
          go_simp
          refine wpAnyH_take (i := 8) (v := .slice a k c) rfl (by kernel_rfl) (by kernel_rfl) (by kernel_rfl) (fun _ _ _ h => h) (Or.inl ⟨by rfl, ?_⟩) SW ?_
          · intro W hW
            go_simp
          go_simp
          refine wpAnyH_take (i := 1) (v := .int .i64 s.bid) rfl (by kernel_rfl) (by kernel_rfl) (by kernel_rfl) (fun _ _ _ h => h) (Or.inl ⟨by rfl, ?_⟩) SW ?_
          · intro W hW
            obtain ⟨z0, z1, z2, z3⟩ := Au.cells hW.2.1
            go_simp
          go_simp
          refine wpAnyH_take (i := 4) (v := .int .i64 s.bid) rfl (by kernel_rfl) (by kernel_rfl) (by kernel_rfl) (fun _ _ _ h => h) (Or.inl ⟨by rfl, ?_⟩) SW ?_
          · intro W hW
            obtain ⟨z0, z1, z2, z3⟩ := Au.cells hW.2.1
            go_simp
          go_simp
          refine wpAnyH_take (i := 7) (v := .int .i64 s.dbl) rfl (by kernel_rfl) (by kernel_rfl) (by kernel_rfl) (fun _ _ _ h => h) (Or.inl ⟨by rfl, ?_⟩) SW ?_
          · intro W hW
            obtain ⟨z0, z1, z2, z3⟩ := Au.cells hW.2.1
            go_simp
          go_simp
          refine wpAnyH_take (i := 9) (v := .agg #[.int .i64 s.bid, .int .i64 s.bidder, .int .i64 s.dbl, .int .i64 s.pas]) rfl (by kernel_rfl) (by kernel_rfl) (by kernel_rfl) (fun _ _ _ h => h) (Or.inl ⟨by rfl, ?_⟩) SW ?_
          · intro W hW
            obtain ⟨z0, z1, z2, z3⟩ := Au.cells hW.2.1
            go_simp
          go_simp
          refine wpAnyH_ready (rs := [2]) (by kernel_rfl) (by simp) ?_
          refine AllReadyH.cons rfl (fun K1 hK1 => ?_) AllReadyH.nil
          go_simp
          refine (LV.out _).mono ?_
          rintro e w6 ⟨rfl, hw6⟩
          subst w6
          refine hK1.out _ _ SW (fun SW => ?_)
          clear hK1 K1
          go_simp
          refine wpAnyH_ready (rs := [5]) (by kernel_rfl) (by simp) ?_
          refine AllReadyH.cons rfl (fun K1 hK1 => ?_) AllReadyH.nil
          go_simp
          refine (ST.out _).mono ?_
          rintro e w6 ⟨rfl, hw6⟩
          subst w6
          refine hK1.out _ _ SW (fun SW => ?_)
          clear hK1 K1
          go_simp
          refine wpAnyH_ready (rs := [10]) (by kernel_rfl) (by simp) ?_
          refine AllReadyH.cons rfl (fun K1 hK1 => ?_) AllReadyH.nil
          go_simp
          refine (DE.out _ (HH.out.mono SW.1)).mono ?_
          rintro e w7 ⟨i, hi, rfl, hB7⟩
          obtain ⟨m, hm⟩ : ∃ m, i % 4 = m := ⟨_, rfl⟩
          rw [hm]
          have HOi := hide (HO.out i hi)
          rw [hm] at HOi
          clear hm hi HO
          refine hK1.out _ _ ⟨SW.1.trans (hB7.mono SW.1.size), Blk.below SW.2.1 hB7 (Blk.lt SW.2.1), SW.2.2.imp fun L hL => ⟨hL.1, Blk.below hL.2 hB7 (Blk.lt hL.2)⟩⟩ (fun SW => ?_)
          clear hK1 K1
          go_simp
          refine wpAnyH_take (i := 11) (v := .agg #[.int .i64 L, .int .i64 T, .int .i64 s.dbl, .int .i64 m]) rfl (by kernel_rfl) (by kernel_rfl) (by kernel_rfl) (fun _ _ _ h => h) (Or.inl ⟨by rfl, ?_⟩) SW ?_
          · intro W hW
            go_simp
          go_simp
          obtain ⟨M, hM4, hMb⟩ := SW.2.2
          have g0 := Blk.frozen hMb 0
          have g1 := Blk.frozen hMb 1
          have g2 := Blk.frozen hMb 2
          have g3 := Blk.frozen hMb 3
          have y0 := Blk.cell hMb (i := 0) (by omega)
          have y1 := Blk.cell hMb (i := 1) (by omega)
          have y2 := Blk.cell hMb (i := 2) (by omega)
          have y3 := Blk.cell hMb (i := 3) (by omega)
          refine wpAnyH_ready (rs := [12]) (by kernel_rfl) (by simp) ?_
          refine AllReadyH.cons rfl (fun K1 hK1 => ?_) AllReadyH.nil
          go_simp
          refine hK1.out _ _ ⟨(((SW.1.setCell (p := ⟨w.heap.size, 0, none⟩) (Nat.le_refl _) _).setCell (p := ⟨w.heap.size, 1, none⟩) (Nat.le_refl _) _).setCell (p := ⟨w.heap.size, 2, none⟩) (Nat.le_refl _) _).setCell (p := ⟨w.heap.size, 3, none⟩) (Nat.le_refl _) _, Blk.far (Blk.far (Blk.far (Blk.far SW.2.1 (by simp)) (by simp)) (by simp)) (by simp), _, by rw [List.length_set, List.length_set, List.length_set, List.length_set]; exact hM4, Blk.set (Blk.set (Blk.set (Blk.set hMb 0 L) 1 T) 2 s.dbl) 3 m⟩ (fun SW2 => ?_)
          clear hK1 K1
          have KK := hide (Blk.set (Blk.set (Blk.set (Blk.set hMb 0 L) 1 T) 2 s.dbl) 3 m)
          rw [set4 M L T s.dbl m hM4] at KK
          have HS2 := hide SW2.1
          clear g0 g1 g2 g3 y0 y1 y2 y3 hMb SW
          have SW := SW2
          clear SW2
          go_simp
          refine wpAnyH_take (i := 13) (v := .int .i64 0) rfl (by kernel_rfl) (by kernel_rfl) (by kernel_rfl) (fun _ _ _ h => h) (Or.inl ⟨by rfl, ?_⟩) SW ?_
          · intro W hW
            go_simp
          go_simp
          refine wpAnyH_done (by kernel_rfl) ?_ _
          clear SW
          go_wp2
          obtain ⟨u0, u1, u2, u3⟩ := Ct.cells (l := L) (s := T) (d := s.dbl) (k := m) KK.out
          exact bodyPost_ret (results_ct rfl _ _ w.heap.size rfl L T s.dbl m u0 u1 u2 u3) rfl ⟨L, T, s.dbl, m, 0, HOi.out, rfl, HS2.out⟩

end Go.Proofs.Ytiihnlpoagnkhaa
