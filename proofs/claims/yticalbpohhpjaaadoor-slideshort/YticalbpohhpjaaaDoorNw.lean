/-
  The next ring, walked. No conditions beyond those that each theorem bears.
-/
import Derived.Test.YticalbpohhpjaaaDoorNx
namespace Go.Proofs.YticalbpohhpjaaaDoor
open Go.RowKit

theorem Tvs.lit {base : Nat} {w : World} {W H N cb c q : Nat} {Z : List Int} (h : Bw w cb N c Z) (hb : base ≤ w.heap.size) : Tvs base (w.alloc (.cells (trA W H (some ⟨cb, 0, none⟩) N c q) 55)) W H N (.slice (some ⟨w.heap.size, 0, none⟩) 1 1) [(Z, q)] := by
  refine ⟨tvc W H N cb c q, ⟨rfl, Or.inr ⟨w.heap.size, 1, trA W H (some ⟨cb, 0, none⟩) N c q, rfl, hb, heap_alloc_new w _, Nat.le_refl _, by unfold maxLen; omega, rfl, rfl⟩⟩, ⟨cb, c, [], by simp, h.mono ((Below.refl _ _).alloc (Nat.le_refl _) _), rfl⟩, fun h => by cases h⟩

theorem wpList_append_tr {ops : Array Oper} {rest : List Oper} {o : Oper} {a : Act} {Q : Exit → Act → World → Prop} (w : World) (hgd : o.guard = none) (s x : Operand)
    (ho : o.op = .call { callee := .builtin .append, args := #[s, x], argTypes := #[68, 68] }) (base : Nat) (W H N : Nat) (v : Value) (L : List (List Int × Nat)) (hs : a.eval s = v) (hB : Tvs base w W H N v L)
    (nb ub uc r : Nat) (U : List Int) (hx : a.eval x = .slice (some ⟨nb, 0, none⟩) 1 1) (hnb : w.heap[nb]? = some (.cells (trA W H (some ⟨ub, 0, none⟩) N uc r) 55 (0, 0))) (hU : Bw w ub N uc U)
    (hlen : L.length + 1 ≤ 100000000) (hbase : base ≤ w.heap.size) (tb : Nat) {W' H' : Int} {a' : Option Addr} {n' c' : Nat} {g' : Int} (hT : Ty w tb W' H' a' n' c' g') (hne : ∀ g, v.ownBlock = some g → g ≠ tb)
    (h : ∀ v' w', Tvs base w' W H N v' (L ++ [(U, r)]) → w.grownBy w' v.ownBlock → (∀ q, v.ownBlock = some q → base ≤ q) → (∀ g, v'.ownBlock = some g → g ≠ tb) → wpList Tryd.prog ops Q rest (a.put o.dst v') w') : wpList Tryd.prog ops Q (o :: rest) a w := by
  have hcell : ∀ j u, (tvc W H N ub uc r)[j]? = some u → w.cell? (Addr.add ⟨nb, 0, none⟩ j) = some u := by
    intro j u hu
    have ea : Addr.add ⟨nb, 0, none⟩ j = ⟨nb, 0 + j, none⟩ := by cases j <;> simp [Addr.add]
    rw [ea, Nat.zero_add]
    simp only [World.cell?, hnb]
    match j, hu with
    | 0, hu => simpa using hu
    | 1, hu => simpa using hu
    | 2, hu => simpa using hu
    | 3, hu => simpa using hu
    | j + 4, hu => simp at hu
  have hV : Tv w W H N (tvc W H N ub uc r) [(U, r)] := ⟨ub, uc, [], by simp, hU, rfl⟩
  by_cases hL : L = []
  · subst hL
    obtain ⟨_, _, _, h3⟩ := hB
    have hvn := h3 rfl
    subst hvn
    refine wpList_append_bs w hgd s x ho w.heap.size W H N _ [] hs (Tvs.nil _ _ _ _ _) ⟨nb, 0, none⟩ 1 1 _ [(U, r)] hx rfl hcell hV (by simp) (Nat.le_refl _) ?_
    intro v' w' h1 h2 _
    refine h v' w' (h1.base hbase) h2 (fun q hq => by cases hq) (fun g hg => ?_)
    obtain ⟨vs, h4, -, -⟩ := h1
    have := (h4.lt g hg).1
    have := hT.lt
    omega
  · refine wpList_append_bs w hgd s x ho base W H N v L hs hB ⟨nb, 0, none⟩ 1 1 _ [(U, r)] hx rfl hcell hV hlen hbase ?_
    intro v' w' h1 h2 h3
    refine h v' w' h1 h2 h3 (fun g hg => ?_)
    rintro rfl
    have hk : w'.heap[g]? = w.heap[g]? := h2.block g hT.lt (fun e => hne g e.symm rfl)
    have hT' : w'.heap[g]? = _ := hk.trans hT
    obtain ⟨vs, h4, -, -⟩ := h1
    rcases h4.2 with ⟨hv, _⟩ | ⟨g2, cap, cur, hv, -, hg2, hcap, -, hsz, -⟩
    · rw [hv] at hg; cases hg
    · rw [hv] at hg
      simp only [Value.ownBlock, Option.some.injEq] at hg
      subst hg
      rw [hT'] at hg2
      simp only [Option.some.injEq, Obj.cells.injEq] at hg2
      rw [← hg2.1] at hsz
      have hl1 : 1 ≤ L.length := by
        cases L with
        | nil => exact absurd rfl hL
        | cons => simp
      have h6 : (trA W' H' a' n' c' g').size = 4 := rfl
      rw [h6] at hsz
      simp only [List.length_append, List.length_cons, List.length_nil] at hcap
      omega

theorem nx4_good {W H N : Nat} {t : List Int × Nat} (hW : 2 ≤ W) (hN : W * H = N) (ht : Gt N t) {s : List (List Int × Int) × List (List Int × Nat)} (hs : ∀ x ∈ s.2, Gt N x) : ∀ j, j ≤ 4 → ∀ x ∈ (nx4 W H s t j).2, Gt N x
  | 0, _ => hs
  | j + 1, hj => by
    have ih := nx4_good hW hN ht hs j (by omega)
    intro x hx
    unfold nx4 nx1 at hx
    split at hx
    next hc =>
      split at hx
      · exact ih x hx
      · rcases List.mem_append.1 hx with hx | hx
        · exact ih x hx
        · rw [List.mem_singleton.1 hx]
          obtain ⟨q, hq, _⟩ := frm_nat hc
          rw [hq, Int.toNat_natCast]
          exact ht.move hW hN (by omega) hc hq
    next => exact ih x hx

theorem nxk_good {W H N : Nat} (hW : 2 ≤ W) (hN : W * H = N) {A : List (List Int × Int)} {R : List (List Int × Nat)} (hR : ∀ x ∈ R, Gt N x) : ∀ k, k ≤ R.length → ∀ x ∈ (nxk W H A R k).2, Gt N x
  | 0, _ => fun x hx => by cases hx
  | k + 1, hk => by
    have ih := nxk_good hW hN (A := A) hR k (by omega)
    have hm : R.getD k ([], 0) ∈ R := by simp [List.getD, show k < R.length by omega]
    exact nx4_good hW hN (hR _ hm) ih 4 (Nat.le_refl _)

set_option maxRecDepth 100000 in
set_option maxHeartbeats 16000000 in
theorem next_any (W H N mb : Nat) (v : Value) (A : List (List Int × Int)) (R : List (List Int × Nat)) (w : World) (hT : Tab w) (hv : Tvs 0 w W H N v R) (hM : Mz w mb A) (hu : 2 ≤ W ∧ W ≤ 5) (hh : 2 ≤ H ∧ H ≤ 5) (hN : W * H = N) (hN6 : N ≤ 6) (hG : ∀ t ∈ R, Gt N t) (hl : R.length ≤ 100000) :
    Calls Tryd.prog 54 #[v, .map (some mb)] w fun e w' => ∃ v', e = .returned v' ∧ Tvs w.heap.size w' W H N v' (nxt W H A R).2 ∧ Mz w' mb (nxt W H A R).1 ∧ Keeps (fun k => k = mb) w w' := by
  obtain ⟨ra, rc, rfl, hrc, hrm, hra⟩ := hv.form
  have hmlt := hM.lt
  have hb4 := len_bd hu hh hN
  unfold maxLen at hrm
  have hm0 : mb ≠ 0 := by
    rintro rfl
    obtain ⟨es, clock, hb, _⟩ := hM
    have := hT 0 (by omega)
    simp [World.cell?, hb] at this
  have hw0 := hT.lt
  have HV := hide hv
  have HM := hide hM
  have HT := hide hT
  have HG := hide hG
  clear hv hM hT hG
  have HNX : Hid (nxt W H A R = nxk W H A R R.length) := hide rfl
  go_enter Tryd.func54, Tryd.ntmps54
  go_wp2_with fail
  go_loopw [5, 14] (fun lv iv wr => ∃ (k c5 : Nat) (a5 : Option Addr), iv = .int .i64 k ∧ k ≤ R.length ∧ lv = .slice a5 (nxk W H A R k).2.length c5 ∧ Hid (Tvs w.heap.size wr W H N (.slice a5 (nxk W H A R k).2.length c5) (nxk W H A R k).2) ∧ Hid (Mz wr mb (nxk W H A R k).1) ∧ Hid (Keeps (fun j => j = mb ∨ w.heap.size ≤ j) w wr)) (fun _ iv _ => R.length - (intOf iv).toNat)
  case atStart => exact ⟨0, 0, none, rfl, by omega, rfl, hide (Tvs.nil _ _ _ _ _), HM, hide (Keeps.refl _ _)⟩
  case round =>
    obtain ⟨k, c5, a5, rfl, hk, rfl, HL, HMr, HK⟩ := hrel
    by_cases hkl : k < R.length
    rotate_left
    · obtain rfl : k = R.length := by omega
      have hlt' : ¬ ((R.length : Nat) : Int) < ((R.length : Nat) : Int) := by omega
      rw [← HNX.out] at HL HMr ⊢
      have HK2 : Hid (Keeps (fun j => j = mb) w wr) := hide ⟨HK.out.os, HK.out.tape, HK.out.output, HK.out.size, fun i hi hx => HK.out.block i hi (by rintro (e | e); exact hx e; omega)⟩
      go_wp2_with fail
      go_ret
      exact ⟨_, rfl, HL.out, HMr.out, HK2.out⟩
    have hlt' : (k : Int) < ((R.length : Nat) : Int) := by omega
    obtain ⟨rg, rfl⟩ := hra (fun e => by rw [e] at hkl; simp at hkl)
    have hmem : R.getD k ([], 0) ∈ R := by simp [List.getD, hkl]
    have ht := HG.out _ hmem
    have HVr := hide (HV.out.old HM.out HK.out)
    obtain ⟨cb, cc, hrange, hBw⟩ := HVr.out.at hkl
    have HS0 : Hid (nxk W H A R (k + 1) = nx4 W H (nxk W H A R k) (R.getD k ([], 0)) 4) := hide rfl
    have hlen0 := nxk_len W H A R k
    generalize R.getD k ([], 0) = t at *
    obtain ⟨Z, q⟩ := t
    generalize nxk W H A R k = S0 at *
    have HTG := hide ht
    have HRG := hide hrange
    have HBW := hide hBw
    clear hrange hBw hmem ht
    rw [Nat.mul_comm 4 k] at HRG
    have hrange := HRG.out
    go_upto_region 4 with fail
    go_wp2_with (refine wpList_load_mid rfl 55 _ rfl rg (k * 4) rfl (tvc W H N cb cc q) _ hrange Tryd.underlying55 rfl size55 ?_)
    obtain ⟨w1, hw1⟩ : ∃ w1, wr.alloc (Obj.cells (trA W H (some ⟨cb, 0, none⟩) N cc q) 55) = w1 := ⟨_, rfl⟩
    rw [hw1]
    have b1 : Below wr.heap.size wr w1 := by rw [← hw1]; exact (Below.refl _ wr).alloc (Nat.le_refl _) _
    have HT1 : Hid (Ty w1 wr.heap.size W H (some ⟨cb, 0, none⟩) N cc q) := hide (by rw [← hw1]; exact Ty.new _ _ _ _ _ _ _)
    have HK1 := hide (HK.out.trans (Keeps.of_all b1))
    have HM1 := hide (HMr.out.below b1 HMr.out.lt)
    have HL1 := hide (HL.out.below b1)
    have HW1 := hide (HBW.out.mono b1)
    have hwr : w.heap.size ≤ wr.heap.size := HK.out.size
    have hne0 : ∀ g, a5 = some ⟨g, 0, none⟩ → g ≠ wr.heap.size := by
      rintro g rfl
      obtain ⟨vs, h1, -, -⟩ := HL.out
      have := (h1.lt g rfl).2
      omega
    have HVS : Hid (Keeps (fun j => j = mb ∨ w.heap.size ≤ j) w wr → True) := hide (fun _ => trivial)
    generalize htb : wr.heap.size = tb at *
    clear hw1 b1 HK HMr HL HBW HVS htb hrange HRG HVr
    have hqN := HTG.out.lt
    dsimp only at hqN
    go_loopw [5, 18] (fun lv jv wi => ∃ (j c5 : Nat) (a5 : Option Addr), jv = .int .i64 j ∧ j ≤ 4 ∧ lv = .slice a5 (nx4 W H S0 (Z, q) j).2.length c5 ∧ Hid (Tvs w.heap.size wi W H N (.slice a5 (nx4 W H S0 (Z, q) j).2.length c5) (nx4 W H S0 (Z, q) j).2) ∧ Hid (Mz wi mb (nx4 W H S0 (Z, q) j).1) ∧ Hid (Keeps (fun i => i = mb ∨ w.heap.size ≤ i) w wi) ∧ Hid (Ty wi tb W H (some ⟨cb, 0, none⟩) N cc q) ∧ Hid (Bw wi cb N cc Z) ∧ Hid (∀ g, a5 = some ⟨g, 0, none⟩ → g ≠ tb)) (fun _ jv _ => 4 - (intOf jv).toNat)
    case atStart => exact ⟨0, c5, a5, rfl, by omega, rfl, HL1, HM1, HK1, HT1, HW1, hide hne0⟩
    case round =>
      clear HL1 HM1 HK1 HT1 HW1 hne0
      obtain ⟨j, c5, a5, rfl, hj, rfl, HL, HMi, HK, HTi, HWi, HNE⟩ := hrel
      by_cases hj4 : j < 4
      rotate_left
      · obtain rfl : j = 4 := by omega
        rw [← HS0.out] at HL HMi ⊢
        go_wp2_with fail
        go_roundw
        case rel => exact ⟨k + 1, c5, a5, by go_num, by omega, rfl, HL, HMi, HK⟩
        case measure => simp [intOf]; omega
      have hltj : (j : Int) < 4 := by omega
      have HSJ : Hid (nx4 W H S0 (Z, q) (j + 1) = nx1 W H (nx4 W H S0 (Z, q) j) (Z, q) j) := hide rfl
      have hlenj := nx4_len W H S0 (Z, q) j
      generalize nx4 W H S0 (Z, q) j = S at *
      have hr0 := HTi.out.range0
      go_wp2_with (refine wpList_load_mid rfl 24 _ rfl tb 0 rfl [.int .i64 (W : Nat), .int .i64 (H : Nat), .slice (some ⟨cb, 0, none⟩) N cc] _ hr0 Tryd.underlying24 rfl size24 ?_)
      refine (trayOf_any W H (some ⟨cb, 0, none⟩) N cc Z q wr HWi.out.rd (by omega) HTG.out.gap).mono ?_
      rintro e w2 ⟨ub, uc, rfl, bu, hub, b2⟩
      have HTt := HTi
      go_upto_region 9 with fail
      obtain ⟨w3, hw3⟩ : ∃ w3, w2.alloc (Obj.cells (trA W H (some ⟨ub, 0, none⟩) N uc q) 55) = w3 := ⟨_, rfl⟩
      rw [hw3]
      have b3 : Below w2.heap.size w2 w3 := by rw [← hw3]; exact (Below.refl _ w2).alloc (Nat.le_refl _) _
      have TY3 : Ty w3 w2.heap.size W H (some ⟨ub, 0, none⟩) N uc q := by rw [← hw3]; exact Ty.new _ _ _ _ _ _ _
      have BU3 := bu.mono b3
      have b23 : Below wr.heap.size wr w3 := b2.trans (b3.mono b2.size)
      have hyb : wr.heap.size ≤ w2.heap.size := b2.size
      have HTab3 := hide ((HT.out.keeps HK.out (by rintro (e | e); exact hm0 e.symm; omega)).mono b23)
      have HMV := hide (move_any w2.heap.size W H q j ub N uc Z w3 HTab3.out TY3 BU3 hu hh hN hqN.1 hj4)
      have HTt3 := hide (HTi.out.below b23 HTi.out.lt)
      have HWt3 := hide (HWi.out.mono b23)
      have HL3 := hide (HL.out.below b23)
      have HM3 := hide (HMi.out.below b23 HMi.out.lt)
      have HK3 := hide (HK.out.trans (Keeps.of_all b23))
      have HS3 : Hid (wr.heap.size ≤ w2.heap.size ∧ wr.heap.size ≤ ub ∧ w2.heap.size < w3.heap.size) := hide ⟨hyb, hub, TY3.lt⟩
      have HLB : Hid (tb < wr.heap.size ∧ mb < wr.heap.size) := hide ⟨HTi.out.lt, HMi.out.lt⟩
      have HB3 := hide b23
      generalize w2.heap.size = yb at *
      have hybn : ¬ tb = yb ∧ ¬ mb = yb ∧ ¬ tb = ub ∧ ¬ mb = ub := by have := HS3.out; have := HLB.out; omega
      have HLK : Hid (∀ w4, Keeps (fun i => i = yb ∨ i = ub) w3 w4 → Tvs w.heap.size w4 W H N (.slice a5 S.2.length c5) S.2) := hide (fun w4 hk4 => HL.out.below (b23.trans ((hk4.mono (Y := fun i => wr.heap.size ≤ i) (fun i _ h => by have := HS3.out; omega)).below b23.size (fun i hi e => by omega))))
      have HWK : Hid (∀ w4, Keeps (fun i => i = yb ∨ i = ub) w3 w4 → Bw w4 cb N cc Z) := hide (fun w4 hk4 => HWi.out.mono (b23.trans ((hk4.mono (Y := fun i => wr.heap.size ≤ i) (fun i _ h => by have := HS3.out; omega)).below b23.size (fun i hi e => by omega))))
      have HXW : Hid (w.heap.size ≤ wr.heap.size) := hide HK.out.size
      clear hw3 b2 b3 b23 TY3 BU3 bu HTi HWi HL HMi HK HTt hr0
      have HXK : Hid (∀ w4, Keeps (fun i => i = yb ∨ i = ub) w3 w4 → Below wr.heap.size wr w4) := hide (fun w4 hk4 => HB3.out.trans ((hk4.mono (Y := fun i => wr.heap.size ≤ i) (fun i _ h => by have := HS3.out; omega)).below HB3.out.size (fun i hi e => by omega)))
      cases hcm : cmv W H q j with
      | false =>
        rw [hcm] at HMV
        have HE : Hid (nx1 W H S (Z, q) j = S) := hide (nx1_not hcm)
        rw [HE.out] at HSJ
        go_wp2_with fail
        refine HMV.out.mono ?_
        rintro e w4 ⟨rfl, hk4, -, -⟩
        have HL4 : Hid (Tvs w.heap.size w4 W H N (.slice a5 S.2.length c5) S.2) := hide (HLK.out w4 hk4)
        have HM4 := hide (HM3.out.keeps hk4 (by omega))
        have HK4 := hide (HK3.out.trans (hk4.mono (fun i hi h => .inr (by have := HS3.out; have := HLB.out; have := HXW.out; omega))))
        have HT4 := hide (HTt3.out.keeps hk4 (by omega))
        have HW4 := hide (HWK.out w4 hk4)
        clear hk4 HMV HTt3 HWt3 HL3 HM3 HK3
        go_wp2_with fail
        go_roundw
        case rel => exact ⟨j + 1, c5, a5, by go_num, by omega, by rw [HSJ.out], by rw [HSJ.out]; exact HL4, by rw [HSJ.out]; exact HM4, HK4, HT4, HW4, HNE⟩
        case measure => simp [intOf]; omega
      | true =>
        rw [hcm] at HMV
        obtain ⟨r, hr, hrN⟩ := frm_nat hcm
        rw [hN] at hrN
        have HGM := hide (HTG.out.move hu.1 hN hj4 hcm hr)
        dsimp only at HGM
        have HRR := hide hr
        have HNEW : Hid (lk S.1 (pad6 (mvl Z q r)) = none → nx1 W H S (Z, q) j = (S.1 ++ [(pad6 (mvl Z q r), (((j + 2) % 4 : Nat) : Int))], S.2 ++ [(mvl Z q r, r)])) := hide (fun h => nx1_new hcm hr h)
        have HMET : Hid ((lk S.1 (pad6 (mvl Z q r))).isSome = true → nx1 W H S (Z, q) j = S) := hide (fun h => nx1_met hcm hr h)
        have HUZ := hide (HGM.out.kz hN6)
        dsimp only at HUZ
        generalize hUU : mvl Z q r = U at *
        go_wp2_with fail
        refine HMV.out.mono ?_
        rintro e w4 ⟨rfl, hk4, -, hy⟩
        obtain ⟨ty4, bu4⟩ := hy trivial r HRR.out
        rw [hUU] at bu4
        have HL4 := hide (HLK.out w4 hk4)
        have HM4 := hide (HM3.out.keeps hk4 (by omega))
        have HK4 := hide (HK3.out.trans (hk4.mono (fun i hi h => .inr (by have := HS3.out; have := HLB.out; have := HXW.out; omega))))
        have HT4 := hide (HTt3.out.keeps hk4 (by omega))
        have HW4 := hide (HWK.out w4 hk4)
        have HU4 := hide bu4
        have HS4 : Hid (yb < w4.heap.size) := hide ty4.lt
        clear hk4 hy HMV HTt3 HWt3 HL3 HM3 HK3 HLK HWK bu4 hUU
        go_wp2_with (refine wpList_load_ty rfl (.tmp 9) rfl yb rfl ty4 ?_)
        refine (stones_any W H N uc ub 0 r U w4 (by omega) HU4.out.rd).mono ?_
        rintro e w5 ⟨rfl, b5⟩
        have HL5 := hide (HL4.out.below b5)
        have HM5 := HM4.out.below b5 HM4.out.lt
        have HK5 := hide (HK4.out.trans (Keeps.of_all b5))
        have HT5 := hide (HT4.out.below b5 HT4.out.lt)
        have HW5 := hide (HW4.out.mono b5)
        have HU5 := hide (HU4.out.mono b5)
        have TY5 := ty4.below b5 HS4.out
        have HS5 : Hid (yb < w5.heap.size) := hide TY5.lt
        clear b5 HL4 HM4 HK4 HT4 HW4 HU4 ty4 HS4
        have hkz := HUZ.out
        cases hlk : lk S.1 (pad6 U) with
        | some vv =>
          have HE := hide (HMET.out (by rw [hlk]; rfl))
          rw [HE.out] at HSJ
          have HMM := hide HM5
          clear TY5 HNEW HMET
          go_wp2_with (refine wpList_look2 rfl (.tmp 28) (.tmp 30) rfl HM5 hkz rfl rfl ?_)
          go_roundw
          case rel => exact ⟨j + 1, c5, a5, by go_num, by omega, by rw [HSJ.out], by rw [HSJ.out]; exact HL5, by rw [HSJ.out]; exact HMM, HK5, HT5, HW5, HNE⟩
          case measure => simp [intOf]; omega
        | none =>
          have HLK0 := hide hlk
          have HE := hide (HNEW.out hlk)
          rw [HE.out] at HSJ
          have HMM := hide HM5
          clear HNEW HMET
          go_wp2_with (first
            | refine wpList_look2 rfl (.tmp 28) (.tmp 30) rfl HM5 hkz rfl rfl ?_
            | refine wpList_load_ty rfl (.tmp 9) rfl yb rfl TY5 ?_)
          clear HM5 hlk
          refine (stones_any W H N uc ub 0 r U w5 (by omega) HU5.out.rd).mono ?_
          rintro e w6 ⟨rfl, b6⟩
          have HL6 := hide (HL5.out.below b6)
          have HM6 := HMM.out.below b6 HMM.out.lt
          have HK6 := hide (HK5.out.trans (Keeps.of_all b6))
          have HT6 := hide (HT5.out.below b6 HT5.out.lt)
          have HW6 := hide (HW5.out.mono b6)
          have HU6 := hide (HU5.out.mono b6)
          have TY6 := TY5.below b6 HS5.out
          clear b6 HL5 HMM HK5 HT5 HW5 HU5 TY5 HS5
          go_wp2_with fail
          refine (opposite_any j w6 hj4).mono ?_
          rintro e wx ⟨rfl, hwx⟩
          subst wx
          have hno := HLK0.out
          generalize hop : (j + 2) % 4 = op at *
          go_upto_region 13 with (refine wpList_update_mz rfl (.tmp 36) (.tmp 38) (.tmp 40) (.inl rfl) HM6 hkz hno rfl rfl rfl ?_; intro w7 hm7 hk7)
          have hmt : ¬ tb = mb := fun e => hybn.2.1 (by have := HLB.out; omega) |>.elim
          have HL7 := hide (HL6.out.ofMap HM6 hk7)
          have HT7 := hide (HT6.out.keeps hk7 hmt)
          have HW7 := hide (HW6.out.ofMap HM6 hk7)
          have HU7 := hide (HU6.out.ofMap HM6 hk7)
          have TY7 := TY6.keeps hk7 (fun e => hybn.2.1 e.symm)
          have HK7 := hide (HK6.out.trans (hk7.mono (fun i _ h => .inl h)))
          have HM7 := hide hm7
          clear HL6 HM6 HK6 HT6 HW6 HU6 TY6 hm7 hk7
          have b8 : Below w7.heap.size w7 (w7.alloc (.cells (trA W H (some ⟨ub, 0, none⟩) N uc r) 55)) := (Below.refl _ w7).alloc (Nat.le_refl _) _
          have hnb := heap_alloc_new w7 (.cells (trA W H (some ⟨ub, 0, none⟩) N uc r) 55)
          have HL8 := HL7.out.below b8
          have HU8 := HU7.out.mono b8
          have HT8 := HT7.out.below b8 HT7.out.lt
          have HM8 := hide (HM7.out.below b8 HM7.out.lt)
          have HW8 := hide (HW7.out.mono b8)
          have HK8 := hide (HK7.out.trans (Keeps.of_all b8))
          have hbs : w.heap.size ≤ (w7.alloc (.cells (trA W H (some ⟨ub, 0, none⟩) N uc r) 55)).heap.size := HK8.out.size
          have hne8 : ∀ g, (Value.slice a5 S.2.length c5).ownBlock = some g → g ≠ tb := by
            intro g hg
            cases a5 with
            | none => cases hg
            | some x =>
              simp only [Value.ownBlock, Option.some.injEq] at hg
              obtain ⟨vs, h1, -, -⟩ := HL8
              rcases h1.2 with ⟨hv, _⟩ | ⟨g', cap, cur, hv, -, -, -⟩
              · cases hv
              · simp only [Value.slice.injEq, Option.some.injEq] at hv
                obtain ⟨rfl, -⟩ := hv
                subst hg
                exact HNE.out _ rfl
          go_wp2_with (first
            | refine wpList_load_ty rfl (.tmp 9) rfl yb rfl TY7 ?_
            | (refine wpList_append_tr _ rfl (.tmp 41) (.tmp 43) rfl w.heap.size W H N _ S.2 rfl HL8 w7.heap.size ub uc r U rfl hnb HU8 (by omega) hbs tb HT8 hne8 ?_; intro v9 w9 t9 g9 q9 n9))
          obtain ⟨a9, c9, rfl, -, -, -⟩ := t9.form
          have KG : Keeps (fun i => w.heap.size ≤ i) (w7.alloc (.cells (trA W H (some ⟨ub, 0, none⟩) N uc r) 55)) w9 := ⟨g9.os, g9.tape, g9.output, g9.size, fun i hi hx => g9.block i hi (fun e => hx (q9 i e.symm))⟩
          have HK9 := hide (HK8.out.trans (KG.mono (fun i _ h => .inr h)))
          have HM9 := hide (HM8.out.keeps KG (by show ¬ w.heap.size ≤ mb; omega))
          have HT9 : Hid (Ty w9 tb W H (some ⟨cb, 0, none⟩) N cc q) := hide ((g9.block tb HT8.lt (fun e => hne8 tb e.symm rfl)).trans HT8)
          have HW9 : Hid (Bw w9 cb N cc Z) := hide (own_blk HW8.out (fun x hx => by
            obtain rfl : cb = x := by simpa [Value.ownBlock] using hx
            exact g9.block cb HW8.out.lt (fun e => apart HL8 HW8.out e)))
          have HN9 : Hid (∀ g, a9 = some ⟨g, 0, none⟩ → g ≠ tb) := hide (fun g e => n9 g (by rw [e]; rfl))
          have HL9 := hide t9
          clear t9 g9 q9 n9 KG HL8 HU8 HT8 hnb b8
          go_roundw
          case rel =>
            refine ⟨j + 1, c9, a9, by go_num, by omega, by rw [HSJ.out], by rw [HSJ.out]; exact HL9, by rw [HSJ.out]; exact HM9, HK9, HT9, HW9, HN9⟩
          case measure => simp [intOf]; omega


end Go.Proofs.YticalbpohhpjaaaDoor
