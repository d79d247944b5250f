/-
  The document's search for the least, of steps that are still to come. No conditions beyond those that each theorem bears.
-/
import Derived.Test.YtmboikpcbkiepaaRle
namespace Go.Proofs.Ytmboikpcbkiepaa
open Go.RowKit Go.Maps

theorem acc_skip {ps m : List Nat} {p i : Nat} (h : can m p i = false) : acc ps m p (i + 1) = acc ps m p i := by
  rw [acc, if_neg (by rw [h]; simp)]

theorem acc_none {ps m : List Nat} {p i : Nat} (h : can m p i = true) (h0 : acc ps m p i = none) : acc ps m p (i + 1) = some (rfL ps (nxt m p i)) := by
  rw [acc, if_pos h, h0]

theorem acc_some {ps m : List Nat} {p i y : Nat} (h : can m p i = true) (h0 : acc ps m p i = some y) : acc ps m p (i + 1) = some (min y (rfL ps (nxt m p i))) := by
  rw [acc, if_pos h, h0]

set_option maxRecDepth 100000 in
theorem set_tab : (Ms.all fun m => (List.range 6).all fun i => (List.range 6).all fun j => Nat.ble ((m.set i (m.getD i 0 - 1)).getD j 0) 3) = true := by decide +kernel

theorem set_le3 {m : List Nat} (hm : m ∈ Ms) {i j : Nat} (hi : i < 6) (hj : j < 6) : (m.set i (m.getD i 0 - 1)).getD j 0 ≤ 3 :=
  Nat.le_of_ble_eq_true (List.all_eq_true.1 (List.all_eq_true.1 (List.all_eq_true.1 set_tab m hm) i (List.mem_range.2 hi)) j (List.mem_range.2 hj))

theorem nxt_off {m : List Nat} {p i : Nat} (h : i < p) : cs (nxt m p i) = (cs m).set i ((m.getD i 0 - 1 : Nat) : Int) := by
  rw [nxt, if_neg (by omega), cs_set]

theorem nxt_on {m : List Nat} {p i : Nat} (h : p ≤ i) : cs (nxt m p i) = ((cs m).set i ((m.getD i 0 - 1 : Nat) : Int)).set (i - p) (((m.set i (m.getD i 0 - 1)).getD (i - p) 0 + 1 : Nat) : Int) := by
  rw [nxt, if_pos h, cs_set, cs_set]

theorem can_eq (m : List Nat) (p i : Nat) : can m p i = (decide ((i : Int) ≤ far m 6) && !(Nat.beq (m.getD i 0) 0 || (Nat.blt (i + 1) p && !decide ((i : Int) = far m 6)))) := by rw [can]

theorem Rd.blockO {w w' : World} {b off n c : Nat} {zs : List Int} (h : Rd w (some ⟨b, off, none⟩) n c zs) (hb : w'.heap[b]? = w.heap[b]?) : Rd w' (some ⟨b, off, none⟩) n c zs := by
  refine ⟨h.len, h.cap, h.max, h.nil, fun hn => ⟨b, off, rfl, fun i hi => ?_⟩⟩
  have := (h.cell hi).2
  unfold World.cell? at this ⊢
  rw [hb]
  exact this

theorem Rd.tail {w : World} {b off n c : Nat} {p : Nat} {ps : List Nat} (h : Rd w (some ⟨b, off, none⟩) (n + 1) c (cs (p :: ps))) : Rd w (some ⟨b, off + 1, none⟩) n (c - 1) (cs ps) := by
  have hl := h.len
  have hc := h.cap
  have hm := h.max
  refine ⟨by simpa [cs] using hl, by omega, by omega, (fun e => by cases e), fun hn => ⟨b, off + 1, rfl, fun i hi => ?_⟩⟩
  have := (h.cell (i := i + 1) (by omega)).2
  rw [show off + (i + 1) = off + 1 + i by omega] at this
  rw [this]
  rfl

theorem own_frozen {w : World} {base g n c : Nat} {xs : List Value} (h : w.ownsRow base 3 1 (.slice (some ⟨g, 0, none⟩) n c) n xs) (i : Nat) : w.frozen? ⟨g, i, none⟩ = false := by
  rcases h.2 with ⟨e, _⟩ | ⟨g', cap, cur, e, h1, h2, _⟩
  · cases e
  · simp only [Value.slice.injEq, Option.some.injEq, Addr.mk.injEq] at e
    obtain ⟨⟨rfl, _⟩, _⟩ := e
    simp [World.frozen?, h2]

theorem own_set {w : World} {base g n c : Nat} {zs : List Int} (h : w.ownsRow base 3 1 (.slice (some ⟨g, 0, none⟩) n c) n (zs.map (Value.int .i64))) (i : Nat) (x : Int) : (w.setCell ⟨g, i, none⟩ (.int .i64 x)).ownsRow base 3 1 (.slice (some ⟨g, 0, none⟩) n c) n ((zs.set i x).map (Value.int .i64)) := by
  refine ⟨by have := h.1; simpa using this, ?_⟩
  rcases h.2 with ⟨e, _⟩ | ⟨g', cap, cur, e, h1, h2, h3, h4, h5, h6⟩
  · cases e
  · simp only [Value.slice.injEq, Option.some.injEq, Addr.mk.injEq] at e
    obtain ⟨⟨rfl, _⟩, _, rfl⟩ := e
    refine Or.inr ⟨g, c, cur.setIfInBounds i (.int .i64 x), rfl, h1, ?_, h3, h4, by simpa using h5, ?_⟩
    · simp [World.setCell, Array.getElem?_modify, h2]
    · rw [Array.toList_setIfInBounds, List.take_set, h6, List.map_set]

attribute [local irreducible] vl lst sd6 endsL sumS rowS one9 endsX fl rA rB pip Ms v7 dv fin rfL acc far can nxt

set_option maxRecDepth 100000 in
set_option maxHeartbeats 2000000 in
theorem least_succ (P kb q : Nat) (hq : q ≤ 3) (hOf : OfOk P kb) (ih : LeOk P kb q) : LeOk P kb (q + 1) := by
  obtain ⟨Q, hQ⟩ : ∃ Q, q + 1 = Q := ⟨_, rfl⟩
  rw [hQ]
  have hQ1 : 1 ≤ Q := by omega
  intro ps0 hps hpr m hm hpm w F Ml hK g c hg hR b off pc hb hbl hRp
  by_cases hp1 : pc = 1
  · have hQe : Q = 1 := by have := hRp.cap; omega
    subst hp1
    subst hQe
    have hqe : q = 0 := by omega
    subst hqe
    obtain ⟨p, ps, rfl⟩ : ∃ p ps, ps0 = p :: ps := by
      cases ps0 with
      | nil => first | (simp at hps; done) | (simp at hps; omega)
      | cons p ps => exact ⟨p, ps, rfl⟩
    have hp := hpr p (by simp)
    have hpsl : ps.length = 0 := by have := hps; simp only [List.length_cons] at this; omega
    have HQ := hide hQ
    clear hQ
    have hcm := hR.max
    have hcn := hR.cap
    have hpx := hRp.max
    have hpc := hRp.cap
    unfold maxLen at hcm hpx
    have hgl := World.block_lt_of_cell? _ _ (hR.at6 (i := 0) (by omega))
    have HR := hide hR
    have HRP := hide hRp
    have HM := hide hm
    have HFF := hide (far_facts hm)
    have HX3 := hide (fun i (hi : i < 6) => (row_facts hm).2.2.2 _ (getD_mem (zs := cs m) (k := i) (by rw [cs, List.length_map, (row_facts hm).2.1]; exact hi)))
    have HX4 := hide (fun i (hi : i < 6) j (hj : j < 6) => set_le3 hm hi hj)
    have HIH := hide (fun z hz (hlt : pip z < P ∨ (0 < pip z ∧ pip z ≤ P ∧ 0 < 0)) => ih ps hpsl (fun p hp => hpr p (by simp [hp])) z hz hlt)
    have HPO : Hid (Post P kb w F Ml w) := hide (Post.refl hK)
    by_cases hf0 : far m 6 < 0
    · have hp0 : pip m = 0 := HFF.out.1.1 hf0
      have HC := hide (hOf m hm (by omega) w F Ml hK g c hg hR)
      have HV : Hid (rfL (p :: ps) m = v7 m) := hide (by
        rw [rfL, if_pos (by rw [hp0]; rfl)]
        unfold v7
        rw [vl_zero hm hp0])
      have HF0 := hide hf0
      clear hOf ih hK hR hRp hpm hm hg hb hps hpr hf0 hp0
      go_enter Try.func64, Try.ntmps64
      go_wp2_with fail
      go_loopw [7, 8] (fun u v wr => ∃ i : Nat, u = .int .i64 (far m i) ∧ v = .int .i64 i ∧ i ≤ 6 ∧ w = wr) (fun _ v _ => 6 - (intOf v).toNat)
      case atStart => exact ⟨0, by rw [far_zero], rfl, by omega, rfl⟩
      case round =>
        obtain ⟨i, rfl, rfl, hi6, rfl⟩ := hrel
        by_cases hi : i < 6
        · have hi' : (i : Int) < 6 := by omega
          have hc := HR.out.at6 hi
          have HFS := hide (far_succ m i)
          generalize m.getD i 0 = x at *
          by_cases hx : 0 < x
          · have hx' : (0 : Int) < (x : Int) := by omega
            rw [if_pos hx] at HFS
            go_wp2_with fail
            exact ⟨⟨i + 1, by rw [HFS.out], by congr 1, by omega, trivial⟩, by simp [intOf]; omega⟩
          · have hx' : ¬ (0 : Int) < (x : Int) := by omega
            rw [if_neg hx] at HFS
            go_wp2_with fail
            exact ⟨⟨i + 1, by rw [HFS.out], by congr 1, by omega, trivial⟩, by simp [intOf]; omega⟩
        · have hi' : ¬ (i : Int) < 6 := by omega
          have hie : i = 6 := by omega
          subst hie
          have hf0 := HF0.out
          generalize far m 6 = fr at *
          go_wp2_with fail
          refine HC.out.mono ?_
          rintro e w2 ⟨rfl, hw⟩
          have HW := hide hw
          clear hw HC
          go_wp2_with fail
          go_ret
          exact ⟨by rw [HV.out]; rfl, HW.out⟩
    · have hp0 : 0 < pip m := by
        have : ¬ pip m = 0 := fun e => hf0 (HFF.out.1.2 e)
        omega
      have HLT : Hid (∀ z, pip z < pip m → pip z < P) := hide (fun z hz => by rcases hpm with h | h <;> omega)
      have HEND := hide (fun (k : Nat) (hk : k ≤ 6) (h : far m 6 < (k : Int)) => rfL_cons hm hp0 hp ps hk h)
      have HF0 := hide hf0
      have hg := hide hg
      have hb := hide hb
      clear hOf ih hK hR hRp hpm hm hps hpr hf0 hp0
      go_enter Try.func64, Try.ntmps64
      go_wp2_with fail
      go_loopw [7, 8] (fun u v wr => ∃ i : Nat, u = .int .i64 (far m i) ∧ v = .int .i64 i ∧ i ≤ 6 ∧ w = wr) (fun _ v _ => 6 - (intOf v).toNat)
      case atStart => exact ⟨0, by rw [far_zero], rfl, by omega, rfl⟩
      case round =>
        obtain ⟨i, rfl, rfl, hi6, rfl⟩ := hrel
        by_cases hi : i < 6
        · have hi' : (i : Int) < 6 := by omega
          have hc := HR.out.at6 hi
          have HFS := hide (far_succ m i)
          generalize m.getD i 0 = x at *
          by_cases hx : 0 < x
          · have hx' : (0 : Int) < (x : Int) := by omega
            rw [if_pos hx] at HFS
            go_wp2_with fail
            exact ⟨⟨i + 1, by rw [HFS.out], by congr 1, by omega, trivial⟩, by simp [intOf]; omega⟩
          · have hx' : ¬ (0 : Int) < (x : Int) := by omega
            rw [if_neg hx] at HFS
            go_wp2_with fail
            exact ⟨⟨i + 1, by rw [HFS.out], by congr 1, by omega, trivial⟩, by simp [intOf]; omega⟩
        · have hi' : ¬ (i : Int) < 6 := by omega
          have hie : i = 6 := by omega
          subst hie
          have hf0 := HF0.out
          have hf5 := HFF.out.2
          have HCE := hide (can_eq m p)
          obtain ⟨fr, hfr⟩ : ∃ fr, far m 6 = fr := ⟨_, rfl⟩
          rw [hfr] at hf0 hf5 HEND HCE ⊢
          clear hfr HF0 HFF
          have hq0 : (((1 : Nat) : Int) == 0) = false := by first | (simp; done) | (simp; omega)
          go_wp2_with fail
          go_loopw [9, 10] (fun u v wr2 => ∃ (i : Nat) (A : Option Nat), Hid (A = acc ps m p i) ∧ u = .int .i64 (ov A) ∧ v = .int .i64 i ∧ (i : Int) ≤ fr + 1 ∧ i ≤ 6 ∧ Hid (Post P kb w F Ml wr2)) (fun _ v _ => 6 - (intOf v).toNat)
          case atStart => exact ⟨0, none, hide (by rw [acc]), rfl, rfl, by omega, by omega, HPO⟩
          case round =>
            obtain ⟨i, A, hA, rfl, rfl, hif1, hi66, hPo⟩ := hrel
            rename World => wr2
            by_cases hif : (i : Int) ≤ fr
            · have hi6 : i < 6 := by omega
              obtain ⟨F1, Ml1, hK1, hk1, hs1, he1⟩ := hPo.out
              have hg1 : ¬ F1 g := fun e => hg.out (hs1 g hgl e)
              have hb1 : ¬ F1 b := fun e => hb.out (hs1 b hbl e)
              have hRg := HR.out.block (hk1.block g hgl hg.out)
              have hRpp := HRP.out.blockO (hk1.block b hbl hb.out)
              have hc := hRg.at6 hi6
              have hpz : wr2.cell? ⟨b, off, none⟩ = some (.int .i64 p) := by
                have := (hRpp.cell (i := 0) (by omega)).2
                rw [cs_getD] at this
                exact this
              obtain ⟨x, hx⟩ : ∃ x, m.getD i 0 = x := ⟨_, rfl⟩
              have hxe := hide hx
              have hx3 : x ≤ 3 := by have := (HX3.out i hi6).2; rw [cs_getD, hx] at this; omega
              have hce := HCE.out i
              rw [hx] at hc hce
              rw [show decide ((i : Int) ≤ fr) = true by simpa using hif, Bool.true_and] at hce
              clear hx
              by_cases hx0 : x = 0
              · have hxb : ((x : Int) == 0) = true := by simp [hx0]
                have hcan : can m p i = false := by rw [hce, hx0]; rfl
                clear hx0 hce hxe
                have HACC := hide (acc_skip (ps := ps) hcan)
                clear hcan
                go_wp2_with fail
                exact ⟨⟨i + 1, A, hide (by rw [HACC.out]; exact hA.out), rfl, by congr 1, by omega, by omega, hPo⟩, by simp [intOf]; omega⟩
              · have hxb : ((x : Int) == 0) = false := by simpa using hx0
                rw [show Nat.beq x 0 = false by cases x with | zero => exact absurd rfl hx0 | succ x => rfl, Bool.false_or] at hce
                by_cases h1 : i + 1 < p
                · have h1' : (i : Int) + 1 < (p : Int) := by omega
                  rw [show Nat.blt (i + 1) p = true by simpa using h1, Bool.true_and, Bool.not_not] at hce
                  by_cases h2 : (i : Int) = fr
                  · have h2b : ((i : Int) != fr) = false := by simp [h2]
                    have hcan : can m p i = true := by rw [hce]; simpa using h2
                    have HI2 := hide h2
                    clear hce h2
                    obtain ⟨hn1, hn2⟩ := can_next HM.out hp hi6 hcan
                    have HAC0 := hide (acc_none (ps := ps) hcan)
                    have HAC1 := hide (fun y => acc_some (ps := ps) (y := y) hcan)
                    have HCALL := hide (HIH.out _ hn1 (Or.inl (HLT.out _ hn2)))
                    have HIN := hide (ints_own (some ⟨g, 0, none⟩) 6 c (cs m) wr2 hRg (by omega))
                    clear hcan hn1 hn2
                    go_wp2_with fail
                    refine HIN.out.mono ?_
                    rintro e w2 ⟨a2, c2, rfl, hown, hb2⟩
                    clear HIN
                    obtain ⟨g2, rfl, hg2, hg2l⟩ : ∃ g2, a2 = some ⟨g2, 0, none⟩ ∧ wr2.heap.size ≤ g2 ∧ g2 < w2.heap.size := by
                      rcases hown.2 with ⟨_, h0⟩ | ⟨g2, cap, cur, e, h1, h2, _⟩
                      · omega
                      · simp only [Value.slice.injEq] at e
                        exact ⟨g2, e.1, h1, (Array.getElem?_eq_some_iff.1 h2).1⟩
                    have hK2 := hK1.below hb2 (Nat.le_refl _)
                    have hng2 : ¬ F1 g2 := fun e => by have := hK1.2 g2 e; omega
                    have hbl2 : b < wr2.heap.size := Nat.lt_of_lt_of_le hbl hk1.size
                    have hp2 := (hb2.cell (p := ⟨b, off, none⟩) hbl2).trans hpz
                    have e1 := (Rd.of_own hown).at6 hi6
                    rw [hxe.out] at e1
                    have f1 := own_frozen hown i
                    have O3 := own_set hown i ((x - 1 : Nat) : Int)
                    have hx1 : ((x - 1 : Nat) : Int) = (x : Int) - 1 := by omega
                    rw [hx1] at O3
                    have hK3 := hK2.keeps (Keeps.set1 w2 g2 i (.int .i64 ((x : Int) - 1))) (fun j hj e => hng2 (by rw [← e]; exact hj))
                    have hRp2 := (hRpp.mono hb2).blockO (w' := w2.setCell ⟨g2, i, none⟩ (.int .i64 ((x : Int) - 1))) ((Keeps.set1 w2 g2 i (.int .i64 ((x : Int) - 1))).block b (Nat.lt_of_lt_of_le hbl2 hb2.size) (by omega))
                    have hp3 : (w2.setCell ⟨g2, i, none⟩ (.int .i64 ((x : Int) - 1))).cell? ⟨b, off, none⟩ = some (.int .i64 p) := (World.cell?_setCell_far _ _ _ _ (by simp; omega)).trans hp2
                    have hpi' : ¬ (0 : Int) ≤ (i : Int) - (p : Int) := by omega
                    have RN := Rd.of_own O3
                    have HNF := nxt_off (m := m) (p := p) (i := i) (by omega)
                    rw [hxe.out, hx1] at HNF
                    rw [← HNF] at RN
                    clear HNF
                    have BW := hb2.setCell (p := ⟨g2, i, none⟩) hg2 (.int .i64 ((x : Int) - 1))
                    have hK4 := hK3
                    have hRp4 := hRp2
                    go_upto_region 18 with fail
                    generalize w2.setCell ⟨g2, i, none⟩ (.int .i64 ((x : Int) - 1)) = W4 at *
                    have HCW := hide (fun b' off' pc' (h1 : ¬ F1 b') (h2 : b' < W4.heap.size) h3 => HCALL.out W4 F1 Ml1 hK4 g2 c2 hng2 RN b' off' pc' h1 h2 h3)
                    have hblW : b < W4.heap.size := Nat.lt_of_lt_of_le hbl2 BW.size
                    have hkW : Keeps F w W4 := hk1.trans ((Keeps.of_below BW).mono (fun i hi e => by omega))
                    have HPW := hide (fun w9 (h : Post P kb W4 F1 Ml1 w9) => Post.trans hkW hs1 he1 h)
                    have HRW := hide hRp4
                    go_wp2_with fail
                    refine (HCW.out b off 0 hb1 hblW ⟨by rw [cs, List.length_map]; exact hpsl, Nat.le_refl _, Nat.zero_le _, (fun e => by cases e), fun h => absurd h (by omega)⟩).mono ?_
                    rintro e w9 ⟨rfl, hpost⟩
                    have HP9 := hide (HPW.out w9 hpost)
                    clear hpost HPW HRW HCW hkW hblW RN BW hK4 hRp4
                    generalize rfL ps (nxt m p i) = r at *
                    cases A with
                    | none =>
                      rw [show ov none = (-1 : Int) from rfl]
                      have HA2 := hide (HAC0.out hA.out.symm)
                      go_wp2_with fail
                      exact ⟨⟨i + 1, some r, hide HA2.out.symm, rfl, by congr 1, by omega, by omega, HP9⟩, by simp [intOf]; omega⟩
                    | some y0 =>
                      rw [show ov (some y0) = (y0 : Int) from rfl]
                      have HA2 := hide (HAC1.out y0 hA.out.symm)
                      have hy00 : ¬ (y0 : Int) < 0 := by omega
                      by_cases hry : r < y0
                      · have hry' : (r : Int) < (y0 : Int) := by omega
                        rw [show min y0 r = r by omega] at HA2
                        go_wp2_with fail
                        exact ⟨⟨i + 1, some r, hide HA2.out.symm, rfl, by congr 1, by omega, by omega, HP9⟩, by simp [intOf]; omega⟩
                      · have hry' : ¬ (r : Int) < (y0 : Int) := by omega
                        rw [show min y0 r = y0 by omega] at HA2
                        go_wp2_with fail
                        exact ⟨⟨i + 1, some y0, hide HA2.out.symm, rfl, by congr 1, by omega, by omega, HP9⟩, by simp [intOf]; omega⟩
                  · have h2b : ((i : Int) != fr) = true := by simpa using h2
                    have hcan : can m p i = false := by rw [hce]; simpa using h2
                    clear hce
                    have HACC := hide (acc_skip (ps := ps) hcan)
                    clear hcan
                    go_wp2_with fail
                    exact ⟨⟨i + 1, A, hide (by rw [HACC.out]; exact hA.out), rfl, by congr 1, by omega, by omega, hPo⟩, by simp [intOf]; omega⟩
                · have h1' : ¬ (i : Int) + 1 < (p : Int) := by omega
                  have hcan : can m p i = true := by rw [hce, show Nat.blt (i + 1) p = false by cases hb : Nat.blt (i + 1) p with | false => rfl | true => exact absurd (by simpa using hb) h1]; rfl
                  clear hce
                  obtain ⟨hn1, hn2⟩ := can_next HM.out hp hi6 hcan
                  have HAC0 := hide (acc_none (ps := ps) hcan)
                  have HAC1 := hide (fun y => acc_some (ps := ps) (y := y) hcan)
                  have HCALL := hide (HIH.out _ hn1 (Or.inl (HLT.out _ hn2)))
                  have HIN := hide (ints_own (some ⟨g, 0, none⟩) 6 c (cs m) wr2 hRg (by omega))
                  clear hcan hn1 hn2
                  go_wp2_with fail
                  refine HIN.out.mono ?_
                  rintro e w2 ⟨a2, c2, rfl, hown, hb2⟩
                  clear HIN
                  obtain ⟨g2, rfl, hg2, hg2l⟩ : ∃ g2, a2 = some ⟨g2, 0, none⟩ ∧ wr2.heap.size ≤ g2 ∧ g2 < w2.heap.size := by
                    rcases hown.2 with ⟨_, h0⟩ | ⟨g2, cap, cur, e, h1, h2, _⟩
                    · omega
                    · simp only [Value.slice.injEq] at e
                      exact ⟨g2, e.1, h1, (Array.getElem?_eq_some_iff.1 h2).1⟩
                  have hK2 := hK1.below hb2 (Nat.le_refl _)
                  have hng2 : ¬ F1 g2 := fun e => by have := hK1.2 g2 e; omega
                  have hbl2 : b < wr2.heap.size := Nat.lt_of_lt_of_le hbl hk1.size
                  have hp2 := (hb2.cell (p := ⟨b, off, none⟩) hbl2).trans hpz
                  have e1 := (Rd.of_own hown).at6 hi6
                  rw [hxe.out] at e1
                  have f1 := own_frozen hown i
                  have O3 := own_set hown i ((x - 1 : Nat) : Int)
                  have hx1 : ((x - 1 : Nat) : Int) = (x : Int) - 1 := by omega
                  rw [hx1] at O3
                  have hK3 := hK2.keeps (Keeps.set1 w2 g2 i (.int .i64 ((x : Int) - 1))) (fun j hj e => hng2 (by rw [← e]; exact hj))
                  have hRp2 := (hRpp.mono hb2).blockO (w' := w2.setCell ⟨g2, i, none⟩ (.int .i64 ((x : Int) - 1))) ((Keeps.set1 w2 g2 i (.int .i64 ((x : Int) - 1))).block b (Nat.lt_of_lt_of_le hbl2 hb2.size) (by omega))
                  have hp3 : (w2.setCell ⟨g2, i, none⟩ (.int .i64 ((x : Int) - 1))).cell? ⟨b, off, none⟩ = some (.int .i64 p) := (World.cell?_setCell_far _ _ _ _ (by simp; omega)).trans hp2
                  by_cases hpi : p ≤ i
                  · have hpi' : (0 : Int) ≤ (i : Int) - (p : Int) := by omega
                    obtain ⟨j, hj⟩ : ∃ j, i - p = j := ⟨_, rfl⟩
                    have hij : (i : Int) - (p : Int) = (j : Int) := by omega
                    have hj6 : j < 6 := by omega
                    have HNO := hide (nxt_on (m := m) (p := p) (i := i) hpi)
                    rw [hxe.out, hx1, hj] at HNO
                    have e2 := ((Rd.of_own O3).cell (i := j) hj6).2
                    rw [← hx1, ← cs_set, cs_getD, Nat.zero_add] at e2
                    rw [hx1] at e2
                    obtain ⟨y, hy⟩ : ∃ y, (m.set i (x - 1)).getD j 0 = y := ⟨_, rfl⟩
                    rw [hy] at e2 HNO
                    have hyb : y ≤ 3 := by have := (HX4.out i hi6 j hj6); rw [hxe.out, hy] at this; exact this
                    have hy1 : ((y + 1 : Nat) : Int) = (y : Int) + 1 := by omega
                    rw [hy1] at HNO
                    have f2 := own_frozen O3 j
                    have O4 := own_set O3 j ((y : Int) + 1)
                    have RN := Rd.of_own O4
                    rw [← HNO.out] at RN
                    have BW := (hb2.setCell (p := ⟨g2, i, none⟩) hg2 (.int .i64 ((x : Int) - 1))).setCell (p := ⟨g2, j, none⟩) hg2 (.int .i64 ((y : Int) + 1))
                    have hK4 := hK3.keeps (Keeps.set1 _ g2 j (.int .i64 ((y : Int) + 1))) (fun j hj e => hng2 (by rw [← e]; exact hj))
                    have hRp4 := hRp2.blockO ((Keeps.set1 (w2.setCell ⟨g2, i, none⟩ (.int .i64 ((x : Int) - 1))) g2 j (.int .i64 ((y : Int) + 1))).block b (by have := hb2.size; simp [World.setCell]; omega) (by omega))
                    clear hj hy
                    go_upto_region 18 with fail
                    generalize (w2.setCell ⟨g2, i, none⟩ (.int .i64 ((x : Int) - 1))).setCell ⟨g2, j, none⟩ (.int .i64 ((y : Int) + 1)) = W4 at *
                    have HCW := hide (fun b' off' pc' (h1 : ¬ F1 b') (h2 : b' < W4.heap.size) h3 => HCALL.out W4 F1 Ml1 hK4 g2 c2 hng2 RN b' off' pc' h1 h2 h3)
                    have hblW : b < W4.heap.size := Nat.lt_of_lt_of_le hbl2 BW.size
                    have hkW : Keeps F w W4 := hk1.trans ((Keeps.of_below BW).mono (fun i hi e => by omega))
                    have HPW := hide (fun w9 (h : Post P kb W4 F1 Ml1 w9) => Post.trans hkW hs1 he1 h)
                    have HRW := hide hRp4
                    go_wp2_with fail
                    refine (HCW.out b off 0 hb1 hblW ⟨by rw [cs, List.length_map]; exact hpsl, Nat.le_refl _, Nat.zero_le _, (fun e => by cases e), fun h => absurd h (by omega)⟩).mono ?_
                    rintro e w9 ⟨rfl, hpost⟩
                    have HP9 := hide (HPW.out w9 hpost)
                    clear hpost HPW HRW HCW hkW hblW RN BW hK4 hRp4
                    generalize rfL ps (nxt m p i) = r at *
                    cases A with
                    | none =>
                      rw [show ov none = (-1 : Int) from rfl]
                      have HA2 := hide (HAC0.out hA.out.symm)
                      go_wp2_with fail
                      exact ⟨⟨i + 1, some r, hide HA2.out.symm, rfl, by congr 1, by omega, by omega, HP9⟩, by simp [intOf]; omega⟩
                    | some y0 =>
                      rw [show ov (some y0) = (y0 : Int) from rfl]
                      have HA2 := hide (HAC1.out y0 hA.out.symm)
                      have hy00 : ¬ (y0 : Int) < 0 := by omega
                      by_cases hry : r < y0
                      · have hry' : (r : Int) < (y0 : Int) := by omega
                        rw [show min y0 r = r by omega] at HA2
                        go_wp2_with fail
                        exact ⟨⟨i + 1, some r, hide HA2.out.symm, rfl, by congr 1, by omega, by omega, HP9⟩, by simp [intOf]; omega⟩
                      · have hry' : ¬ (r : Int) < (y0 : Int) := by omega
                        rw [show min y0 r = y0 by omega] at HA2
                        go_wp2_with fail
                        exact ⟨⟨i + 1, some y0, hide HA2.out.symm, rfl, by congr 1, by omega, by omega, HP9⟩, by simp [intOf]; omega⟩
                  · have hpi' : ¬ (0 : Int) ≤ (i : Int) - (p : Int) := by omega
                    have RN := Rd.of_own O3
                    have HNF := nxt_off (m := m) (p := p) (i := i) (by omega)
                    rw [hxe.out, hx1] at HNF
                    rw [← HNF] at RN
                    clear HNF
                    have BW := hb2.setCell (p := ⟨g2, i, none⟩) hg2 (.int .i64 ((x : Int) - 1))
                    have hK4 := hK3
                    have hRp4 := hRp2
                    go_upto_region 18 with fail
                    generalize w2.setCell ⟨g2, i, none⟩ (.int .i64 ((x : Int) - 1)) = W4 at *
                    have HCW := hide (fun b' off' pc' (h1 : ¬ F1 b') (h2 : b' < W4.heap.size) h3 => HCALL.out W4 F1 Ml1 hK4 g2 c2 hng2 RN b' off' pc' h1 h2 h3)
                    have hblW : b < W4.heap.size := Nat.lt_of_lt_of_le hbl2 BW.size
                    have hkW : Keeps F w W4 := hk1.trans ((Keeps.of_below BW).mono (fun i hi e => by omega))
                    have HPW := hide (fun w9 (h : Post P kb W4 F1 Ml1 w9) => Post.trans hkW hs1 he1 h)
                    have HRW := hide hRp4
                    go_wp2_with fail
                    refine (HCW.out b off 0 hb1 hblW ⟨by rw [cs, List.length_map]; exact hpsl, Nat.le_refl _, Nat.zero_le _, (fun e => by cases e), fun h => absurd h (by omega)⟩).mono ?_
                    rintro e w9 ⟨rfl, hpost⟩
                    have HP9 := hide (HPW.out w9 hpost)
                    clear hpost HPW HRW HCW hkW hblW RN BW hK4 hRp4
                    generalize rfL ps (nxt m p i) = r at *
                    cases A with
                    | none =>
                      rw [show ov none = (-1 : Int) from rfl]
                      have HA2 := hide (HAC0.out hA.out.symm)
                      go_wp2_with fail
                      exact ⟨⟨i + 1, some r, hide HA2.out.symm, rfl, by congr 1, by omega, by omega, HP9⟩, by simp [intOf]; omega⟩
                    | some y0 =>
                      rw [show ov (some y0) = (y0 : Int) from rfl]
                      have HA2 := hide (HAC1.out y0 hA.out.symm)
                      have hy00 : ¬ (y0 : Int) < 0 := by omega
                      by_cases hry : r < y0
                      · have hry' : (r : Int) < (y0 : Int) := by omega
                        rw [show min y0 r = r by omega] at HA2
                        go_wp2_with fail
                        exact ⟨⟨i + 1, some r, hide HA2.out.symm, rfl, by congr 1, by omega, by omega, HP9⟩, by simp [intOf]; omega⟩
                      · have hry' : ¬ (r : Int) < (y0 : Int) := by omega
                        rw [show min y0 r = y0 by omega] at HA2
                        go_wp2_with fail
                        exact ⟨⟨i + 1, some y0, hide HA2.out.symm, rfl, by congr 1, by omega, by omega, HP9⟩, by simp [intOf]; omega⟩
            · have hif' : ¬ (i : Int) ≤ fr := hif
              have HE := hide (HEND.out i hi66 (by omega))
              rw [← hA.out] at HE
              go_wp2_with fail
              go_ret
              exact ⟨by rw [← HE.out]; rfl, hPo.out⟩

  · obtain ⟨p, ps, rfl⟩ : ∃ p ps, ps0 = p :: ps := by
      cases ps0 with
      | nil => first | (simp at hps; done) | (simp at hps; omega)
      | cons p ps => exact ⟨p, ps, rfl⟩
    have hp := hpr p (by simp)
    have hpsl : ps.length = q := by have := hps; simp only [List.length_cons] at this; omega
    have HQ := hide hQ
    clear hQ
    have hcm := hR.max
    have hcn := hR.cap
    have hpx := hRp.max
    have hpc := hRp.cap
    unfold maxLen at hcm hpx
    have hgl := World.block_lt_of_cell? _ _ (hR.at6 (i := 0) (by omega))
    have HR := hide hR
    have HRP := hide hRp
    have HM := hide hm
    have HFF := hide (far_facts hm)
    have HX3 := hide (fun i (hi : i < 6) => (row_facts hm).2.2.2 _ (getD_mem (zs := cs m) (k := i) (by rw [cs, List.length_map, (row_facts hm).2.1]; exact hi)))
    have HX4 := hide (fun i (hi : i < 6) j (hj : j < 6) => set_le3 hm hi hj)
    have HIH := hide (fun z hz (hlt : pip z < P ∨ (0 < pip z ∧ pip z ≤ P ∧ 0 < q)) => ih ps hpsl (fun p hp => hpr p (by simp [hp])) z hz hlt)
    have HPO : Hid (Post P kb w F Ml w) := hide (Post.refl hK)
    by_cases hf0 : far m 6 < 0
    · have hp0 : pip m = 0 := HFF.out.1.1 hf0
      have HC := hide (hOf m hm (by omega) w F Ml hK g c hg hR)
      have HV : Hid (rfL (p :: ps) m = v7 m) := hide (by
        rw [rfL, if_pos (by rw [hp0]; rfl)]
        unfold v7
        rw [vl_zero hm hp0])
      have HF0 := hide hf0
      clear hOf ih hK hR hRp hpm hm hg hb hps hpr hf0 hp0
      go_enter Try.func64, Try.ntmps64
      go_wp2_with fail
      go_loopw [7, 8] (fun u v wr => ∃ i : Nat, u = .int .i64 (far m i) ∧ v = .int .i64 i ∧ i ≤ 6 ∧ w = wr) (fun _ v _ => 6 - (intOf v).toNat)
      case atStart => exact ⟨0, by rw [far_zero], rfl, by omega, rfl⟩
      case round =>
        obtain ⟨i, rfl, rfl, hi6, rfl⟩ := hrel
        by_cases hi : i < 6
        · have hi' : (i : Int) < 6 := by omega
          have hc := HR.out.at6 hi
          have HFS := hide (far_succ m i)
          generalize m.getD i 0 = x at *
          by_cases hx : 0 < x
          · have hx' : (0 : Int) < (x : Int) := by omega
            rw [if_pos hx] at HFS
            go_wp2_with fail
            exact ⟨⟨i + 1, by rw [HFS.out], by congr 1, by omega, trivial⟩, by simp [intOf]; omega⟩
          · have hx' : ¬ (0 : Int) < (x : Int) := by omega
            rw [if_neg hx] at HFS
            go_wp2_with fail
            exact ⟨⟨i + 1, by rw [HFS.out], by congr 1, by omega, trivial⟩, by simp [intOf]; omega⟩
        · have hi' : ¬ (i : Int) < 6 := by omega
          have hie : i = 6 := by omega
          subst hie
          have hf0 := HF0.out
          generalize far m 6 = fr at *
          go_wp2_with fail
          refine HC.out.mono ?_
          rintro e w2 ⟨rfl, hw⟩
          have HW := hide hw
          clear hw HC
          go_wp2_with fail
          go_ret
          exact ⟨by rw [HV.out]; rfl, HW.out⟩
    · have hp0 : 0 < pip m := by
        have : ¬ pip m = 0 := fun e => hf0 (HFF.out.1.2 e)
        omega
      have HLT : Hid (∀ z, pip z < pip m → pip z < P) := hide (fun z hz => by rcases hpm with h | h <;> omega)
      have HEND := hide (fun (k : Nat) (hk : k ≤ 6) (h : far m 6 < (k : Int)) => rfL_cons hm hp0 hp ps hk h)
      have HF0 := hide hf0
      have hg := hide hg
      have hb := hide hb
      clear hOf ih hK hR hRp hpm hm hps hpr hf0 hp0
      go_enter Try.func64, Try.ntmps64
      go_wp2_with fail
      go_loopw [7, 8] (fun u v wr => ∃ i : Nat, u = .int .i64 (far m i) ∧ v = .int .i64 i ∧ i ≤ 6 ∧ w = wr) (fun _ v _ => 6 - (intOf v).toNat)
      case atStart => exact ⟨0, by rw [far_zero], rfl, by omega, rfl⟩
      case round =>
        obtain ⟨i, rfl, rfl, hi6, rfl⟩ := hrel
        by_cases hi : i < 6
        · have hi' : (i : Int) < 6 := by omega
          have hc := HR.out.at6 hi
          have HFS := hide (far_succ m i)
          generalize m.getD i 0 = x at *
          by_cases hx : 0 < x
          · have hx' : (0 : Int) < (x : Int) := by omega
            rw [if_pos hx] at HFS
            go_wp2_with fail
            exact ⟨⟨i + 1, by rw [HFS.out], by congr 1, by omega, trivial⟩, by simp [intOf]; omega⟩
          · have hx' : ¬ (0 : Int) < (x : Int) := by omega
            rw [if_neg hx] at HFS
            go_wp2_with fail
            exact ⟨⟨i + 1, by rw [HFS.out], by congr 1, by omega, trivial⟩, by simp [intOf]; omega⟩
        · have hi' : ¬ (i : Int) < 6 := by omega
          have hie : i = 6 := by omega
          subst hie
          have hf0 := HF0.out
          have hf5 := HFF.out.2
          have HCE := hide (can_eq m p)
          obtain ⟨fr, hfr⟩ : ∃ fr, far m 6 = fr := ⟨_, rfl⟩
          rw [hfr] at hf0 hf5 HEND HCE ⊢
          clear hfr HF0 HFF
          have hq0 : (((Q : Nat) : Int) == 0) = false := by first | (simp; done) | (simp; omega)
          go_wp2_with fail
          go_loopw [9, 10] (fun u v wr2 => ∃ (i : Nat) (A : Option Nat), Hid (A = acc ps m p i) ∧ u = .int .i64 (ov A) ∧ v = .int .i64 i ∧ (i : Int) ≤ fr + 1 ∧ i ≤ 6 ∧ Hid (Post P kb w F Ml wr2)) (fun _ v _ => 6 - (intOf v).toNat)
          case atStart => exact ⟨0, none, hide (by rw [acc]), rfl, rfl, by omega, by omega, HPO⟩
          case round =>
            obtain ⟨i, A, hA, rfl, rfl, hif1, hi66, hPo⟩ := hrel
            rename World => wr2
            by_cases hif : (i : Int) ≤ fr
            · have hi6 : i < 6 := by omega
              obtain ⟨F1, Ml1, hK1, hk1, hs1, he1⟩ := hPo.out
              have hg1 : ¬ F1 g := fun e => hg.out (hs1 g hgl e)
              have hb1 : ¬ F1 b := fun e => hb.out (hs1 b hbl e)
              have hRg := HR.out.block (hk1.block g hgl hg.out)
              have hRpp := HRP.out.blockO (hk1.block b hbl hb.out)
              have hc := hRg.at6 hi6
              have hpz : wr2.cell? ⟨b, off, none⟩ = some (.int .i64 p) := by
                have := (hRpp.cell (i := 0) (by omega)).2
                rw [cs_getD] at this
                exact this
              obtain ⟨x, hx⟩ : ∃ x, m.getD i 0 = x := ⟨_, rfl⟩
              have hxe := hide hx
              have hx3 : x ≤ 3 := by have := (HX3.out i hi6).2; rw [cs_getD, hx] at this; omega
              have hce := HCE.out i
              rw [hx] at hc hce
              rw [show decide ((i : Int) ≤ fr) = true by simpa using hif, Bool.true_and] at hce
              clear hx
              by_cases hx0 : x = 0
              · have hxb : ((x : Int) == 0) = true := by simp [hx0]
                have hcan : can m p i = false := by rw [hce, hx0]; rfl
                clear hx0 hce hxe
                have HACC := hide (acc_skip (ps := ps) hcan)
                clear hcan
                go_wp2_with fail
                exact ⟨⟨i + 1, A, hide (by rw [HACC.out]; exact hA.out), rfl, by congr 1, by omega, by omega, hPo⟩, by simp [intOf]; omega⟩
              · have hxb : ((x : Int) == 0) = false := by simpa using hx0
                rw [show Nat.beq x 0 = false by cases x with | zero => exact absurd rfl hx0 | succ x => rfl, Bool.false_or] at hce
                by_cases h1 : i + 1 < p
                · have h1' : (i : Int) + 1 < (p : Int) := by omega
                  rw [show Nat.blt (i + 1) p = true by simpa using h1, Bool.true_and, Bool.not_not] at hce
                  by_cases h2 : (i : Int) = fr
                  · have h2b : ((i : Int) != fr) = false := by simp [h2]
                    have hcan : can m p i = true := by rw [hce]; simpa using h2
                    have HI2 := hide h2
                    clear hce h2
                    obtain ⟨hn1, hn2⟩ := can_next HM.out hp hi6 hcan
                    have HAC0 := hide (acc_none (ps := ps) hcan)
                    have HAC1 := hide (fun y => acc_some (ps := ps) (y := y) hcan)
                    have HCALL := hide (HIH.out _ hn1 (Or.inl (HLT.out _ hn2)))
                    have HIN := hide (ints_own (some ⟨g, 0, none⟩) 6 c (cs m) wr2 hRg (by omega))
                    clear hcan hn1 hn2
                    go_wp2_with fail
                    refine HIN.out.mono ?_
                    rintro e w2 ⟨a2, c2, rfl, hown, hb2⟩
                    clear HIN
                    obtain ⟨g2, rfl, hg2, hg2l⟩ : ∃ g2, a2 = some ⟨g2, 0, none⟩ ∧ wr2.heap.size ≤ g2 ∧ g2 < w2.heap.size := by
                      rcases hown.2 with ⟨_, h0⟩ | ⟨g2, cap, cur, e, h1, h2, _⟩
                      · omega
                      · simp only [Value.slice.injEq] at e
                        exact ⟨g2, e.1, h1, (Array.getElem?_eq_some_iff.1 h2).1⟩
                    have hK2 := hK1.below hb2 (Nat.le_refl _)
                    have hng2 : ¬ F1 g2 := fun e => by have := hK1.2 g2 e; omega
                    have hbl2 : b < wr2.heap.size := Nat.lt_of_lt_of_le hbl hk1.size
                    have hp2 := (hb2.cell (p := ⟨b, off, none⟩) hbl2).trans hpz
                    have e1 := (Rd.of_own hown).at6 hi6
                    rw [hxe.out] at e1
                    have f1 := own_frozen hown i
                    have O3 := own_set hown i ((x - 1 : Nat) : Int)
                    have hx1 : ((x - 1 : Nat) : Int) = (x : Int) - 1 := by omega
                    rw [hx1] at O3
                    have hK3 := hK2.keeps (Keeps.set1 w2 g2 i (.int .i64 ((x : Int) - 1))) (fun j hj e => hng2 (by rw [← e]; exact hj))
                    have hRp2 := (hRpp.mono hb2).blockO (w' := w2.setCell ⟨g2, i, none⟩ (.int .i64 ((x : Int) - 1))) ((Keeps.set1 w2 g2 i (.int .i64 ((x : Int) - 1))).block b (Nat.lt_of_lt_of_le hbl2 hb2.size) (by omega))
                    have hp3 : (w2.setCell ⟨g2, i, none⟩ (.int .i64 ((x : Int) - 1))).cell? ⟨b, off, none⟩ = some (.int .i64 p) := (World.cell?_setCell_far _ _ _ _ (by simp; omega)).trans hp2
                    have hpi' : ¬ (0 : Int) ≤ (i : Int) - (p : Int) := by omega
                    have RN := Rd.of_own O3
                    have HNF := nxt_off (m := m) (p := p) (i := i) (by omega)
                    rw [hxe.out, hx1] at HNF
                    rw [← HNF] at RN
                    clear HNF
                    have BW := hb2.setCell (p := ⟨g2, i, none⟩) hg2 (.int .i64 ((x : Int) - 1))
                    have hK4 := hK3
                    have hRp4 := hRp2
                    go_upto_region 18 with fail
                    generalize w2.setCell ⟨g2, i, none⟩ (.int .i64 ((x : Int) - 1)) = W4 at *
                    have HCW := hide (fun b' off' pc' (h1 : ¬ F1 b') (h2 : b' < W4.heap.size) h3 => HCALL.out W4 F1 Ml1 hK4 g2 c2 hng2 RN b' off' pc' h1 h2 h3)
                    have hblW : b < W4.heap.size := Nat.lt_of_lt_of_le hbl2 BW.size
                    have hkW : Keeps F w W4 := hk1.trans ((Keeps.of_below BW).mono (fun i hi e => by omega))
                    have HPW := hide (fun w9 (h : Post P kb W4 F1 Ml1 w9) => Post.trans hkW hs1 he1 h)
                    have HRW := hide hRp4
                    have hpc1 : ¬ (pc : Int) - 1 = 0 := by omega
                    have hqe : Q - 1 = q := by have := HQ.out; omega
                    go_wp2_with fail
                    refine (HCW.out b (off + 1) (pc - 1) hb1 hblW (Rd.tail (by rw [HQ.out]; exact HRW.out))).mono ?_
                    rintro e w9 ⟨rfl, hpost⟩
                    have HP9 := hide (HPW.out w9 hpost)
                    clear hpost HPW HRW HCW hkW hblW RN BW hK4 hRp4
                    generalize rfL ps (nxt m p i) = r at *
                    cases A with
                    | none =>
                      rw [show ov none = (-1 : Int) from rfl]
                      have HA2 := hide (HAC0.out hA.out.symm)
                      go_wp2_with fail
                      exact ⟨⟨i + 1, some r, hide HA2.out.symm, rfl, by congr 1, by omega, by omega, HP9⟩, by simp [intOf]; omega⟩
                    | some y0 =>
                      rw [show ov (some y0) = (y0 : Int) from rfl]
                      have HA2 := hide (HAC1.out y0 hA.out.symm)
                      have hy00 : ¬ (y0 : Int) < 0 := by omega
                      by_cases hry : r < y0
                      · have hry' : (r : Int) < (y0 : Int) := by omega
                        rw [show min y0 r = r by omega] at HA2
                        go_wp2_with fail
                        exact ⟨⟨i + 1, some r, hide HA2.out.symm, rfl, by congr 1, by omega, by omega, HP9⟩, by simp [intOf]; omega⟩
                      · have hry' : ¬ (r : Int) < (y0 : Int) := by omega
                        rw [show min y0 r = y0 by omega] at HA2
                        go_wp2_with fail
                        exact ⟨⟨i + 1, some y0, hide HA2.out.symm, rfl, by congr 1, by omega, by omega, HP9⟩, by simp [intOf]; omega⟩
                  · have h2b : ((i : Int) != fr) = true := by simpa using h2
                    have hcan : can m p i = false := by rw [hce]; simpa using h2
                    clear hce
                    have HACC := hide (acc_skip (ps := ps) hcan)
                    clear hcan
                    go_wp2_with fail
                    exact ⟨⟨i + 1, A, hide (by rw [HACC.out]; exact hA.out), rfl, by congr 1, by omega, by omega, hPo⟩, by simp [intOf]; omega⟩
                · have h1' : ¬ (i : Int) + 1 < (p : Int) := by omega
                  have hcan : can m p i = true := by rw [hce, show Nat.blt (i + 1) p = false by cases hb : Nat.blt (i + 1) p with | false => rfl | true => exact absurd (by simpa using hb) h1]; rfl
                  clear hce
                  obtain ⟨hn1, hn2⟩ := can_next HM.out hp hi6 hcan
                  have HAC0 := hide (acc_none (ps := ps) hcan)
                  have HAC1 := hide (fun y => acc_some (ps := ps) (y := y) hcan)
                  have HCALL := hide (HIH.out _ hn1 (Or.inl (HLT.out _ hn2)))
                  have HIN := hide (ints_own (some ⟨g, 0, none⟩) 6 c (cs m) wr2 hRg (by omega))
                  clear hcan hn1 hn2
                  go_wp2_with fail
                  refine HIN.out.mono ?_
                  rintro e w2 ⟨a2, c2, rfl, hown, hb2⟩
                  clear HIN
                  obtain ⟨g2, rfl, hg2, hg2l⟩ : ∃ g2, a2 = some ⟨g2, 0, none⟩ ∧ wr2.heap.size ≤ g2 ∧ g2 < w2.heap.size := by
                    rcases hown.2 with ⟨_, h0⟩ | ⟨g2, cap, cur, e, h1, h2, _⟩
                    · omega
                    · simp only [Value.slice.injEq] at e
                      exact ⟨g2, e.1, h1, (Array.getElem?_eq_some_iff.1 h2).1⟩
                  have hK2 := hK1.below hb2 (Nat.le_refl _)
                  have hng2 : ¬ F1 g2 := fun e => by have := hK1.2 g2 e; omega
                  have hbl2 : b < wr2.heap.size := Nat.lt_of_lt_of_le hbl hk1.size
                  have hp2 := (hb2.cell (p := ⟨b, off, none⟩) hbl2).trans hpz
                  have e1 := (Rd.of_own hown).at6 hi6
                  rw [hxe.out] at e1
                  have f1 := own_frozen hown i
                  have O3 := own_set hown i ((x - 1 : Nat) : Int)
                  have hx1 : ((x - 1 : Nat) : Int) = (x : Int) - 1 := by omega
                  rw [hx1] at O3
                  have hK3 := hK2.keeps (Keeps.set1 w2 g2 i (.int .i64 ((x : Int) - 1))) (fun j hj e => hng2 (by rw [← e]; exact hj))
                  have hRp2 := (hRpp.mono hb2).blockO (w' := w2.setCell ⟨g2, i, none⟩ (.int .i64 ((x : Int) - 1))) ((Keeps.set1 w2 g2 i (.int .i64 ((x : Int) - 1))).block b (Nat.lt_of_lt_of_le hbl2 hb2.size) (by omega))
                  have hp3 : (w2.setCell ⟨g2, i, none⟩ (.int .i64 ((x : Int) - 1))).cell? ⟨b, off, none⟩ = some (.int .i64 p) := (World.cell?_setCell_far _ _ _ _ (by simp; omega)).trans hp2
                  by_cases hpi : p ≤ i
                  · have hpi' : (0 : Int) ≤ (i : Int) - (p : Int) := by omega
                    obtain ⟨j, hj⟩ : ∃ j, i - p = j := ⟨_, rfl⟩
                    have hij : (i : Int) - (p : Int) = (j : Int) := by omega
                    have hj6 : j < 6 := by omega
                    have HNO := hide (nxt_on (m := m) (p := p) (i := i) hpi)
                    rw [hxe.out, hx1, hj] at HNO
                    have e2 := ((Rd.of_own O3).cell (i := j) hj6).2
                    rw [← hx1, ← cs_set, cs_getD, Nat.zero_add] at e2
                    rw [hx1] at e2
                    obtain ⟨y, hy⟩ : ∃ y, (m.set i (x - 1)).getD j 0 = y := ⟨_, rfl⟩
                    rw [hy] at e2 HNO
                    have hyb : y ≤ 3 := by have := (HX4.out i hi6 j hj6); rw [hxe.out, hy] at this; exact this
                    have hy1 : ((y + 1 : Nat) : Int) = (y : Int) + 1 := by omega
                    rw [hy1] at HNO
                    have f2 := own_frozen O3 j
                    have O4 := own_set O3 j ((y : Int) + 1)
                    have RN := Rd.of_own O4
                    rw [← HNO.out] at RN
                    have BW := (hb2.setCell (p := ⟨g2, i, none⟩) hg2 (.int .i64 ((x : Int) - 1))).setCell (p := ⟨g2, j, none⟩) hg2 (.int .i64 ((y : Int) + 1))
                    have hK4 := hK3.keeps (Keeps.set1 _ g2 j (.int .i64 ((y : Int) + 1))) (fun j hj e => hng2 (by rw [← e]; exact hj))
                    have hRp4 := hRp2.blockO ((Keeps.set1 (w2.setCell ⟨g2, i, none⟩ (.int .i64 ((x : Int) - 1))) g2 j (.int .i64 ((y : Int) + 1))).block b (by have := hb2.size; simp [World.setCell]; omega) (by omega))
                    clear hj hy
                    go_upto_region 18 with fail
                    generalize (w2.setCell ⟨g2, i, none⟩ (.int .i64 ((x : Int) - 1))).setCell ⟨g2, j, none⟩ (.int .i64 ((y : Int) + 1)) = W4 at *
                    have HCW := hide (fun b' off' pc' (h1 : ¬ F1 b') (h2 : b' < W4.heap.size) h3 => HCALL.out W4 F1 Ml1 hK4 g2 c2 hng2 RN b' off' pc' h1 h2 h3)
                    have hblW : b < W4.heap.size := Nat.lt_of_lt_of_le hbl2 BW.size
                    have hkW : Keeps F w W4 := hk1.trans ((Keeps.of_below BW).mono (fun i hi e => by omega))
                    have HPW := hide (fun w9 (h : Post P kb W4 F1 Ml1 w9) => Post.trans hkW hs1 he1 h)
                    have HRW := hide hRp4
                    have hpc1 : ¬ (pc : Int) - 1 = 0 := by omega
                    have hqe : Q - 1 = q := by have := HQ.out; omega
                    go_wp2_with fail
                    refine (HCW.out b (off + 1) (pc - 1) hb1 hblW (Rd.tail (by rw [HQ.out]; exact HRW.out))).mono ?_
                    rintro e w9 ⟨rfl, hpost⟩
                    have HP9 := hide (HPW.out w9 hpost)
                    clear hpost HPW HRW HCW hkW hblW RN BW hK4 hRp4
                    generalize rfL ps (nxt m p i) = r at *
                    cases A with
                    | none =>
                      rw [show ov none = (-1 : Int) from rfl]
                      have HA2 := hide (HAC0.out hA.out.symm)
                      go_wp2_with fail
                      exact ⟨⟨i + 1, some r, hide HA2.out.symm, rfl, by congr 1, by omega, by omega, HP9⟩, by simp [intOf]; omega⟩
                    | some y0 =>
                      rw [show ov (some y0) = (y0 : Int) from rfl]
                      have HA2 := hide (HAC1.out y0 hA.out.symm)
                      have hy00 : ¬ (y0 : Int) < 0 := by omega
                      by_cases hry : r < y0
                      · have hry' : (r : Int) < (y0 : Int) := by omega
                        rw [show min y0 r = r by omega] at HA2
                        go_wp2_with fail
                        exact ⟨⟨i + 1, some r, hide HA2.out.symm, rfl, by congr 1, by omega, by omega, HP9⟩, by simp [intOf]; omega⟩
                      · have hry' : ¬ (r : Int) < (y0 : Int) := by omega
                        rw [show min y0 r = y0 by omega] at HA2
                        go_wp2_with fail
                        exact ⟨⟨i + 1, some y0, hide HA2.out.symm, rfl, by congr 1, by omega, by omega, HP9⟩, by simp [intOf]; omega⟩
                  · have hpi' : ¬ (0 : Int) ≤ (i : Int) - (p : Int) := by omega
                    have RN := Rd.of_own O3
                    have HNF := nxt_off (m := m) (p := p) (i := i) (by omega)
                    rw [hxe.out, hx1] at HNF
                    rw [← HNF] at RN
                    clear HNF
                    have BW := hb2.setCell (p := ⟨g2, i, none⟩) hg2 (.int .i64 ((x : Int) - 1))
                    have hK4 := hK3
                    have hRp4 := hRp2
                    go_upto_region 18 with fail
                    generalize w2.setCell ⟨g2, i, none⟩ (.int .i64 ((x : Int) - 1)) = W4 at *
                    have HCW := hide (fun b' off' pc' (h1 : ¬ F1 b') (h2 : b' < W4.heap.size) h3 => HCALL.out W4 F1 Ml1 hK4 g2 c2 hng2 RN b' off' pc' h1 h2 h3)
                    have hblW : b < W4.heap.size := Nat.lt_of_lt_of_le hbl2 BW.size
                    have hkW : Keeps F w W4 := hk1.trans ((Keeps.of_below BW).mono (fun i hi e => by omega))
                    have HPW := hide (fun w9 (h : Post P kb W4 F1 Ml1 w9) => Post.trans hkW hs1 he1 h)
                    have HRW := hide hRp4
                    have hpc1 : ¬ (pc : Int) - 1 = 0 := by omega
                    have hqe : Q - 1 = q := by have := HQ.out; omega
                    go_wp2_with fail
                    refine (HCW.out b (off + 1) (pc - 1) hb1 hblW (Rd.tail (by rw [HQ.out]; exact HRW.out))).mono ?_
                    rintro e w9 ⟨rfl, hpost⟩
                    have HP9 := hide (HPW.out w9 hpost)
                    clear hpost HPW HRW HCW hkW hblW RN BW hK4 hRp4
                    generalize rfL ps (nxt m p i) = r at *
                    cases A with
                    | none =>
                      rw [show ov none = (-1 : Int) from rfl]
                      have HA2 := hide (HAC0.out hA.out.symm)
                      go_wp2_with fail
                      exact ⟨⟨i + 1, some r, hide HA2.out.symm, rfl, by congr 1, by omega, by omega, HP9⟩, by simp [intOf]; omega⟩
                    | some y0 =>
                      rw [show ov (some y0) = (y0 : Int) from rfl]
                      have HA2 := hide (HAC1.out y0 hA.out.symm)
                      have hy00 : ¬ (y0 : Int) < 0 := by omega
                      by_cases hry : r < y0
                      · have hry' : (r : Int) < (y0 : Int) := by omega
                        rw [show min y0 r = r by omega] at HA2
                        go_wp2_with fail
                        exact ⟨⟨i + 1, some r, hide HA2.out.symm, rfl, by congr 1, by omega, by omega, HP9⟩, by simp [intOf]; omega⟩
                      · have hry' : ¬ (r : Int) < (y0 : Int) := by omega
                        rw [show min y0 r = y0 by omega] at HA2
                        go_wp2_with fail
                        exact ⟨⟨i + 1, some y0, hide HA2.out.symm, rfl, by congr 1, by omega, by omega, HP9⟩, by simp [intOf]; omega⟩
            · have hif' : ¬ (i : Int) ≤ fr := hif
              have HE := hide (HEND.out i hi66 (by omega))
              rw [← hA.out] at HE
              go_wp2_with fail
              go_ret
              exact ⟨by rw [← HE.out]; rfl, hPo.out⟩


end Go.Proofs.Ytmboikpcbkiepaa
