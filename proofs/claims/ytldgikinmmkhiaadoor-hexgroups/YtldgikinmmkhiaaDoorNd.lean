/-
  needed, walked: of each place how many more signs the player needs. No conditions beyond those that each theorem bears.
-/
import Derived.Test.YtldgikinmmkhiaaDoorNr
import Derived.Test.YtldgikinmmkhiaaDoorJd
import Derived.Laws.EntriesVeiled
namespace Go.Proofs.YtldgikinmmkhiaaDoor
open Go.RowKit Go.Shelf

/-- What needed hands back: a table of the least costs. -/
def NeR (n N m : Nat) (Z : List Int) (w w' : World) (e : Ending) : Prop := ∃ g T RL, e = .returned (.slice (some ⟨g, 0, none⟩) N N) ∧ Blk w' g 3 (toI T) ∧ St n Z m T RL ∧ Cl n Z m T RL RL.length ∧ Sd n Z m T (n * n) ∧ Below w.heap.size w w'

theorem own_nilI (w : World) (L : Nat) : w.ownsRow L 3 1 (.slice none ([] : List Nat).length 0) ([] : List Nat).length ((toI []).map (Value.int .i64)) := World.ownsRow_nil _ _ _ _

theorem reach_st {b wb nb rb gN L2 n cb co N bc m : Nat} {Z : List Int} (hD : Ds b wb nb rb gN cb L2) (hm : m = 1 ∨ m = 2) (hN : n * n = N) (hN100 : N ≤ 100) (W : World) (T RL : List Nat) (q c : Nat) (hq : q < N) (hc : c ≤ 101) (hl : L2 ≤ W.heap.size) (hst : St n Z m T RL) (S : Nat → Prop) (hns : Ns b wb nb rb gN L2 n cb co N bc m Z S W T RL) :
    Calls Tryd.prog 62 #[.int .i64 q, .int .i64 c, .pointer (some ⟨b, 0, none⟩), .pointer (some ⟨wb, 0, none⟩), .pointer (some ⟨nb, 0, none⟩), .pointer (some ⟨rb, 0, none⟩)] W fun e W' => e = .returned (.tuple #[]) ∧ Ns b wb nb rb gN L2 n cb co N bc m Z (fun k => S k ∨ W.heap.size ≤ k) W' (rch Z m T RL q c).1 (rch Z m T RL q c).2 ∧ Keeps (fun k => k = gN ∨ k = rb ∨ S k) W W' := by
  have hlen : T.length = N := by rw [hst.len, hN]
  have hle : ∀ q, q < N → T.getD q 0 ≤ 101 := fun q hq => hst.le q (by rw [hN]; exact hq)
  have hrl : RL.length ≤ 100000 := by
    have := hst.bd
    rw [hN] at this
    omega
  exact reach_any b wb nb rb gN L2 n cb co N bc m Z S W T RL q c hD hm hq hc hl hlen hle hrl hns

attribute [local irreducible] nbs toI rch
attribute [local go_sem] Oper.semAt_some wide_fn wide_fn0 wide_depth

set_option maxRecDepth 100000 in
set_option maxHeartbeats 16000000 in
theorem needed_any (n cb co N bc m : Nat) (Z : List Int) (w : World) (hn : 1 ≤ n ∧ n ≤ 10) (hN : n * n = N) (hm : m = 1 ∨ m = 2) (hT : Tab w) (hR : Rd w (some ⟨cb, co, none⟩) N bc Z) :
    Calls Tryd.prog 50 #[.agg (gdA n n (some ⟨cb, co, none⟩) N bc), .int .i64 m] w fun e w' => NeR n N m Z w w' e := by
  have hN100 : N ≤ 100 := by rw [← hN]; exact Nat.mul_le_mul hn.2 hn.2
  have hN1 : 1 ≤ N := by rw [← hN]; exact Nat.mul_le_mul hn.1 hn.1
  have hcb : cb < w.heap.size := hR.blt hN1
  have HRW : Hid (∀ W, Below w.heap.size w W → Rd W (some ⟨cb, co, none⟩) N bc Z ∧ Tab W) := hide (fun W hb => ⟨hR.mono hb, hT.mono hb⟩)
  have HTL := hide hT.lt
  have HNN := hide hN
  have HMM := hide hm
  have hbc : N ≤ bc := hR.cap
  have hm3 : 1 ≤ m ∧ m ≤ 2 := by omega
  clear hR hT
  refine (callsIn_wide (n := 3)).1 ?_
  refine callsIn_of_wp_marks Tryd.func50 rfl trivial ?_ rfl
  simp only [Tryd.ntmps50, List.size_toArray, List.length_cons, List.length_nil, Nat.reduceAdd, Nat.reduceSub, Array.replicate_succ, Array.replicate_zero, List.push_toArray, List.append_toArray, List.nil_append, List.cons_append]
  refine wpIn_wide.2 ?_
  go_wp2_with fail
  obtain ⟨u1, hu1⟩ : ∃ u1, w.alloc (.cells (gdA n n (some ⟨cb, co, none⟩) N bc) 55) = u1 := ⟨_, rfl⟩
  obtain ⟨u2, hu2⟩ : ∃ u2, u1.alloc (.cells #[.int .i64 m] 3) = u2 := ⟨_, rfl⟩
  obtain ⟨u3, hu3⟩ : ∃ u3, u2.alloc (.cells #[.int .i64 101] 3) = u3 := ⟨_, rfl⟩
  rw [hu1, hu2, hu3]
  obtain ⟨s1, h1, B1⟩ := alloc_facts hu1
  obtain ⟨s2, h2, B2⟩ := alloc_facts hu2
  obtain ⟨s3, h3, B3⟩ := alloc_facts hu3
  rw [s1] at h2 s2 B2
  rw [s2] at h3 s3 B3
  have B13 : Below (w.heap.size + 1) u1 u3 := B2.trans (B3.mono (by omega))
  have B03 : Below w.heap.size w u3 := B1.trans (B13.mono (by omega))
  have K0 : Hb u3 w.heap.size n n (some ⟨cb, co, none⟩) N bc := (show Hb u1 w.heap.size n n (some ⟨cb, co, none⟩) N bc from h1).below B13 (by omega)
  have K1 : Vb u3 (w.heap.size + 1) 3 [.int .i64 m] := (show Vb u2 (w.heap.size + 1) 3 [.int .i64 m] from h2).below B3 (by omega)
  have K2 : Vb u3 (w.heap.size + 1 + 1) 3 [.int .i64 101] := h3
  refine (Repeat_any (w.heap.size + 1 + 1) N 101 u3 (K2.cell (i := 0) rfl) (by omega) hN1).mono ?_
  rintro e u4 ⟨rfl, hBk, hB4⟩
  obtain ⟨gN, hgN⟩ : ∃ gN, u3.heap.size = gN := ⟨_, rfl⟩
  rw [hgN] at hBk ⊢
  have Q0 := K0.below hB4 (by omega)
  have Q1 := K1.below hB4 (by omega)
  have B04 : Below w.heap.size w u4 := B03.trans (hB4.mono (by omega))
  obtain ⟨wb, hwb⟩ : ∃ wb, w.heap.size + 1 = wb := ⟨_, rfl⟩
  rw [hwb] at Q1 ⊢
  have HSZ : Hid (wb = w.heap.size + 1 ∧ gN = w.heap.size + 3 ∧ gN < u4.heap.size) := hide ⟨by omega, by omega, hBk.lt⟩
  have HQ0 := hide Q0
  have HQ1 := hide Q1
  have HBK := hide hBk
  have HB4 := hide B04
  clear hu1 hu2 hu3 h1 h2 h3 s1 s2 s3 B1 B2 B3 B13 B03 K0 K1 K2 Q0 Q1 hBk hB4 B04 hgN hwb
  go_upto_region 4 with fail
  obtain ⟨u5, hu5⟩ : ∃ u5, u4.alloc (.cells #[.slice (some ⟨gN, 0, none⟩) N N] 22) = u5 := ⟨_, rfl⟩
  obtain ⟨u6, hu6⟩ : ∃ u6, u5.alloc (.cells #[.slice none 0 0] 22) = u6 := ⟨_, rfl⟩
  obtain ⟨u7, hu7⟩ : ∃ u7, u6.alloc (.cells #[.func (.func 62) #[] #[.pointer (some ⟨w.heap.size, 0, none⟩), .pointer (some ⟨wb, 0, none⟩), .pointer (some ⟨u4.heap.size, 0, none⟩), .pointer (some ⟨u4.heap.size + 1, 0, none⟩)]] 84) = u7 := ⟨_, rfl⟩
  rw [hu5, hu6, hu7]
  obtain ⟨s5, h5, B5⟩ := alloc_facts hu5
  obtain ⟨s6, h6, B6⟩ := alloc_facts hu6
  obtain ⟨s7, h7, B7⟩ := alloc_facts hu7
  rw [s5] at h6 s6 B6
  rw [s6] at h7 s7 B7
  have e0 := HSZ.out
  have B57 : Below (u4.heap.size + 1) u5 u7 := B6.trans (B7.mono (by omega))
  have B47 : Below u4.heap.size u4 u7 := B5.trans (B57.mono (by omega))
  have F5 : Vb u7 u4.heap.size 22 [.slice (some ⟨gN, 0, none⟩) N N] := (show Vb u5 u4.heap.size 22 [.slice (some ⟨gN, 0, none⟩) N N] from h5).below B57 (by omega)
  have F6 : Vb u7 (u4.heap.size + 1) 22 [.slice none 0 0] := (show Vb u6 (u4.heap.size + 1) 22 [.slice none 0 0] from h6).below B7 (by omega)
  obtain ⟨nb, hnb⟩ : ∃ nb, u4.heap.size = nb := ⟨_, rfl⟩
  rw [hnb] at F5 F6 s7 h7 B47 e0 ⊢
  obtain ⟨rb, hrb⟩ : ∃ rb, nb + 1 = rb := ⟨_, rfl⟩
  rw [hrb] at F6 s7 h7 ⊢
  obtain ⟨fb, hfb⟩ : ∃ fb, rb + 1 = fb := ⟨_, rfl⟩
  rw [hfb] at s7 h7 ⊢
  obtain ⟨L2, hL2⟩ : ∃ L2, fb + 1 = L2 := ⟨_, rfl⟩
  have F7 : Vb u7 fb 84 [.func (.func 62) #[] #[.pointer (some ⟨w.heap.size, 0, none⟩), .pointer (some ⟨wb, 0, none⟩), .pointer (some ⟨nb, 0, none⟩), .pointer (some ⟨rb, 0, none⟩)]] := h7
  have HDS : Hid (Ds w.heap.size wb nb rb gN cb L2) := hide ⟨⟨by omega, by omega, by omega, by omega, by omega, by omega⟩, ⟨by omega, by omega, by omega, by omega, by omega⟩, ⟨by omega, by omega, by omega, by omega⟩⟩
  have HFB : Hid (fb ≠ gN ∧ fb ≠ rb ∧ fb < L2 ∧ w.heap.size ≤ gN ∧ w.heap.size ≤ rb ∧ w.heap.size ≤ L2) := hide ⟨by omega, by omega, by omega, by omega, by omega, by omega⟩
  have HL7 : Hid (L2 ≤ u7.heap.size) := hide (by omega)
  have HB7 : Hid (Below w.heap.size w u7) := hide (HB4.out.trans (B47.mono (by omega)))
  have HN7 : Hid (Ns w.heap.size wb nb rb gN L2 n cb co N bc m Z (fun _ => True) u7 (List.replicate N 101) []) := hide ⟨HQ0.out.below B47 (by omega), HQ1.out.below B47 (by omega), (HRW.out u7 HB7.out).1, F5, HBK.out.below B47 (by omega), none, 0, F6, own_nilI _ _, fun _ _ => trivial⟩
  have HF7 := hide F7
  have HST : Hid (St n Z m (List.replicate N 101) []) := hide (by rw [← HNN.out]; exact St.begin n Z m)
  have HCL : Hid (Cl n Z m (List.replicate N 101) [] 0) := hide (by rw [← HNN.out]; exact Cl.begin n Z m)
  have HSD : Hid (Sd n Z m (List.replicate N 101) 0) := hide (fun q hq => absurd hq (by omega))
  have g7 := HN7.out.bd.cells.2.2
  have HRE := hide (reach_st (Z := Z) (n := n) (co := co) (bc := bc) HDS.out HMM.out HNN.out hN100)
  have HFA := hide (fun p hp W => first_any n (some ⟨cb, co, none⟩) N bc p m hn hp HMM.out W)
  clear hu5 hu6 hu7 s5 s6 s7 h5 h6 h7 B5 B6 B7 B57 B47 F5 F6 F7 e0 hnb hrb hfb hL2 HQ0 HQ1 HBK HB4 HSZ
  go_wp2_with fail
  clear g7
  go_loopw [22] (fun v wr => ∃ (j : Nat) (T RL : List Nat), v = .int .i64 j ∧ j ≤ N ∧ Hid (Ns w.heap.size wb nb rb gN L2 n cb co N bc m Z (fun _ => True) wr T RL) ∧ Hid (Vb wr fb 84 [.func (.func 62) #[] #[.pointer (some ⟨w.heap.size, 0, none⟩), .pointer (some ⟨wb, 0, none⟩), .pointer (some ⟨nb, 0, none⟩), .pointer (some ⟨rb, 0, none⟩)]]) ∧ Hid (St n Z m T RL) ∧ Hid (Cl n Z m T RL 0) ∧ Hid (Sd n Z m T j) ∧ Hid (Below w.heap.size w wr) ∧ Hid (L2 ≤ wr.heap.size)) (fun v _ => N - (intOf v).toNat)
  case atStart => exact ⟨0, _, _, rfl, by omega, HN7, HF7, HST, HCL, HSD, HB7, HL7⟩
  case round =>
    obtain ⟨j, T, RL, rfl, hjN, hNs, hFb, hSt, hCl, hSd, hBl, hLe⟩ := hrel
    clear HN7 HF7 HST HCL HSD HB7 HL7
    by_cases hj : j < N
    · have hj' : (j : Int) < (N : Int) := by omega
      have hb := hNs.out.bd
      have cw := hNs.out.wh.cell (i := 0) rfl
      have HC := hide (HFA.out j (by rw [HNN.out]; exact hj) wr)
      by_cases hln : ln n m j = 0
      · rw [decide_eq_true hln] at HC
        have HLN := hide hln
        clear hln
        go_wp2_with (first | (refine wpList_load_hb rfl (.tmp 2) rfl w.heap.size rfl hb ?_) | fail)
        refine HC.out.mono ?_
        rintro e W1 ⟨rfl, hb1⟩
        have N1 := hNs.out.mono hb1
        have F1 := hFb.out.mono hb1
        have L1 := Nat.le_trans hLe.out hb1.size
        have HB1 : Hid (Below w.heap.size w W1) := hide (hBl.out.trans (hb1.mono hBl.out.size))
        obtain ⟨S0, N0, hS0⟩ := N1.own
        have HCR := hide (HRE.out W1 T RL j 0 hj (by omega) L1 hSt.out S0 N0)
        have cf := F1.cell (i := 0) rfl
        have HN1 := hide N0
        have HF1 := hide F1
        have HS0 := hide hS0
        have HL1 := hide L1
        have HRX := hide (hSt.out.reach (q := j) (c := 0) (by rw [HNN.out]; exact hj) (fun hp => by rw [Nat.zero_add]; exact Wc.start (by rw [HNN.out]; exact hj) HLN.out hp))
        obtain ⟨R1, hR1⟩ : ∃ R1, (rch Z m T RL j 0).1 = R1 := ⟨_, rfl⟩
        obtain ⟨R2, hR2⟩ : ∃ R2, (rch Z m T RL j 0).2 = R2 := ⟨_, rfl⟩
        rw [hR1, hR2] at HCR HRX
        clear hb cw HC hb1 N1 N0 F1 L1 hS0 hR1 hR2
        go_wp2_with fail
        refine HCR.out.mono ?_
        rintro e W2 ⟨rfl, hN2, hk2⟩
        have e1 := HFB.out
        have HN2 := hide (hN2.wide (S' := fun _ => True) (fun _ _ _ => trivial))
        have HF2 := hide (HF1.out.keeps hk2 (fun e => by rcases e with e | e | e <;> first | omega | (have := (HS0.out _ e).2.1; omega)))
        have HB2 : Hid (Below w.heap.size w W2) := hide (HB1.out.trans (hk2.below HB1.out.size (fun q hq e => by rcases e with e | e | e <;> first | omega | (have := (HS0.out _ e).2.1; omega))))
        have HL2' : Hid (L2 ≤ W2.heap.size) := hide (Nat.le_trans HL1.out hk2.size)
        have HSD2 : Hid (Sd n Z m R1 (j + 1)) := hide (fun q hq h1 h2 => by
          by_cases e : q = j
          · subst e; have := HRX.out.near h2; omega
          · exact Nat.le_trans (HRX.out.mono q) (hSd.out q (by omega) h1 h2))
        have HCL2 := hide (hCl.out.reach (Nat.zero_le _) HRX.out)
        clear hN2 hk2 cf HCR e1
        go_wp2_with fail
        exact ⟨⟨j + 1, R1, R2, rfl, by omega, HN2, HF2, hide HRX.out.st, HCL2, HSD2, HB2, HL2'⟩, by simp only [intOf]; omega⟩
      · rw [decide_eq_false hln] at HC
        have HLN := hide hln
        clear hln
        go_wp2_with (first | (refine wpList_load_hb rfl (.tmp 2) rfl w.heap.size rfl hb ?_) | fail)
        refine HC.out.mono ?_
        rintro e W1 ⟨rfl, hb1⟩
        have HN1 := hide (hNs.out.mono hb1)
        have HF1 := hide (hFb.out.mono hb1)
        have HL1 : Hid (L2 ≤ W1.heap.size) := hide (Nat.le_trans hLe.out hb1.size)
        have HB1 : Hid (Below w.heap.size w W1) := hide (hBl.out.trans (hb1.mono hBl.out.size))
        have HSD1 : Hid (Sd n Z m T (j + 1)) := hide (fun q hq h1 h2 => by
          by_cases e : q = j
          · subst e; exact absurd h1 HLN.out
          · exact hSd.out q (by omega) h1 h2)
        clear hb cw HC hb1
        go_wp2_with fail
        exact ⟨⟨j + 1, T, RL, rfl, by omega, HN1, HF1, hSt, hCl, HSD1, HB1, HL1⟩, by simp only [intOf]; omega⟩
    · obtain rfl : N = j := by omega
      go_wp2_with fail
      obtain ⟨u8, hu8⟩ : ∃ u8, wr.alloc (.cells #[.int .i64 0] 3) = u8 := ⟨_, rfl⟩
      obtain ⟨s8, h8, B8⟩ := alloc_facts hu8
      have HN8 : Hid (Ns w.heap.size wb nb rb gN L2 n cb co N bc m Z (fun g => g ≠ wr.heap.size) u8 T RL) := hide (by
        obtain ⟨S0, N0, hS0⟩ := hNs.out.own
        exact (N0.wide (S' := fun g => g ≠ wr.heap.size) (fun g _ hg => by have := (hS0 g hg).1; omega)).mono B8)
      have HF8 := hide (hFb.out.mono B8)
      have HB8 : Hid (Below w.heap.size w u8) := hide (hBl.out.trans (B8.mono hBl.out.size))
      have HI8 : Hid (Vb u8 wr.heap.size 3 [.int .i64 0]) := hide h8
      have HSDN : Hid (Sd n Z m T (n * n)) := hide (by rw [HNN.out]; exact hSd.out)
      have HLI : Hid (L2 ≤ wr.heap.size) := hLe
      obtain ⟨ib0, hib0⟩ : ∃ ib0, wr.heap.size = ib0 := ⟨_, rfl⟩
      rw [hu8, hib0]
      rw [hib0] at HN8 HI8 HLI
      clear hu8 s8 h8 B8 hib0 hNs hFb hSd hBl hLe
      refine wp_loop_ghost (fun gq a' wr => ∃ (v0 v1 v4 v8 v10 v11 v12 v13 v14 v15 v16 v17 v18 v19 v20 v21 v22 v23 v24 v25 v26 v27 v28 v29 v30 v31 v32 v33 v34 v35 v36 v37 v38 v39 v40 v41 v42 v43 v44 v45 v46 v47 v48 v49 v50 v51 v52 v53 v54 v55 v56 v57 : Value) (ib : Nat) (ds : List Deferred) (i : Nat) (T RL : List Nat), gq = RL.length - i + T.sum ∧ i ≤ RL.length ∧ Ns w.heap.size wb nb rb gN L2 n cb co N bc m Z (fun g => g ≠ ib) wr T RL ∧ Vb wr fb 84 [.func (.func 62) #[] #[.pointer (some ⟨w.heap.size, 0, none⟩), .pointer (some ⟨wb, 0, none⟩), .pointer (some ⟨nb, 0, none⟩), .pointer (some ⟨rb, 0, none⟩)]] ∧ Vb wr ib 3 [.int .i64 i] ∧ St n Z m T RL ∧ Cl n Z m T RL i ∧ Sd n Z m T (n * n) ∧ Below w.heap.size w wr ∧ L2 ≤ ib ∧ Marks w.heap.size wr ds ∧ a' = { tmps := #[v0, v1, .pointer (some ⟨w.heap.size, 0, none⟩), .pointer (some ⟨wb, 0, none⟩), v4, .pointer (some ⟨nb, 0, none⟩), .pointer (some ⟨rb, 0, none⟩), .pointer (some ⟨fb, 0, none⟩), v8, .pointer (some ⟨ib, 0, none⟩), v10, v11, v12, v13, v14, v15, v16, v17, v18, v19, v20, v21, v22, v23, v24, v25, v26, v27, v28, v29, v30, v31, v32, v33, v34, v35, v36, v37, v38, v39, v40, v41, v42, v43, v44, v45, v46, v47, v48, v49, v50, v51, v52, v53, v54, v55, v56, v57], defers := ds }) (RL.length - 0 + T.sum) ?start ?round
      case start => exact ⟨_, _, _, _, _, _, _, _, _, _, _, _, _, _, _, _, _, _, _, _, _, _, _, _, _, _, _, _, _, _, _, _, _, _, _, _, _, _, _, _, _, _, _, _, _, _, _, _, _, _, _, _, ib0, [], 0, T, RL, rfl, Nat.zero_le _, HN8.out, HF8.out, HI8.out, hSt.out, hCl.out, HSDN.out, HB8.out, HLI.out, Marks.nil _ _, rfl⟩
      case round =>
        clear HN8 HF8 HI8 HB8 HSDN HLI hSt hCl
        clear RL
        clear T
        rintro gq a0 wr ⟨v0, v1, v4, v8, v10, v11, v12, v13, v14, v15, v16, v17, v18, v19, v20, v21, v22, v23, v24, v25, v26, v27, v28, v29, v30, v31, v32, v33, v34, v35, v36, v37, v38, v39, v40, v41, v42, v43, v44, v45, v46, v47, v48, v49, v50, v51, v52, v53, v54, v55, v56, v57, ib, ds, i, T, RL, hgq, hiR, hNs, hFb, hIb, hSt, hCl, hSd, hBl, hLb, hMk, rfl⟩
        obtain ⟨S0, hN0, hS0⟩ := hNs.own
        obtain ⟨ra, rc0, r1, r2, r3⟩ := hN0.rc
        have ci := hIb.cell (i := 0) rfl
        have fi := hIb.frozen 0
        have cr := r1.cell (i := 0) rfl
        have cn := hN0.nd.cell (i := 0) rfl
        have HGQ := hide hgq
        have HN0 := hide hN0
        have HS0 : Hid (∀ g, S0 g → g < wr.heap.size ∧ L2 ≤ g ∧ g ≠ ib ∧ ∃ cur, wr.heap[g]? = some (.cells cur 3 (0, 0))) := hide (fun g hg => ⟨(hS0 g hg).1, (hS0 g hg).2.1, (hS0 g hg).2.2.1, (hS0 g hg).2.2.2⟩)
        have HFB1 := hide hFb
        have HIB := hide hIb
        have HST := hide hSt
        have HCL := hide hCl
        have HSD := hide hSd
        have HBL := hide hBl
        have HMK := hide hMk
        have HR1 := hide r1
        have HR2 := hide r2
        have HLB := hide hLb
        have hRLb : RL.length ≤ 10100 := by
          have h1 := hSt.bd
          rw [HNN.out] at h1
          omega
        clear hgq hNs hN0 hS0 hFb hIb hSt hCl hSd hBl hMk r1 r2 r3 hLb
        by_cases hi : i < RL.length
        · have hi' : (i : Int) < (RL.length : Int) := by omega
          have HIL := hide hi
          obtain ⟨x, hx⟩ : ∃ x, RL.getD i 0 = x := ⟨_, rfl⟩
          have HX := hide hx
          have HXN : Hid (x < n * n) := hide (by rw [← hx]; exact HST.out.rl _ (getD_memN hi))
          have HX100 : Hid (T.getD x 0 ≤ 100) := hide (by rw [← hx]; exact HST.out.r100 _ (getD_memN hi))
          have HRG := hide (Rg.begin HST.out HCL.out HSD.out hi hx)
          obtain ⟨gr, cr0, hrv, -⟩ := own_some HR2.out (by omega)
          simp only [Value.slice.injEq] at hrv
          obtain ⟨rfl, -, rfl⟩ := hrv
          have HGL : Hid (gr < wr.heap.size) := hide (HR2.out.lt gr rfl).2
          have HCX : Hid (∀ W4, Below wr.heap.size wr W4 → W4.cell? ⟨gr, i, none⟩ = some (.int .i64 x)) := hide (fun W4 hb => by
            refine (hb.cell (p := ⟨gr, i, none⟩) HGL.out).trans ?_
            rw [HR2.out.cellAt i (by omega), ← hx, ← toI_getD hi]
            have hil : i < (toI RL).length := by rw [toI_len]; exact hi
            simp [List.getD, hil])
          have HCG : Hid (∀ W4, Below wr.heap.size wr W4 → W4.cell? ⟨rb, 0, none⟩ = some (.slice (some ⟨gr, 0, none⟩) RL.length rc0)) := hide (fun W4 hb => (HR1.out.mono hb).cell (i := 0) rfl)
          have HCI : Hid (∀ W4, Below wr.heap.size wr W4 → W4.cell? ⟨ib, 0, none⟩ = some (.int .i64 i)) := hide (fun W4 hb => (HIB.out.mono hb).cell (i := 0) rfl)
          have HGR : Hid (∀ W4, Below wr.heap.size wr W4 → W4.rangeAt w.heap.size 0 [.int .i64 n, .int .i64 n, .slice (some ⟨cb, co, none⟩) N bc]) := hide (fun W4 hb => (HN0.out.bd.below hb HN0.out.bd.lt).range)
          have HTW := hide (HRW.out wr HBL.out).2
          obtain ⟨rl, hrl⟩ : ∃ rl, RL.length = rl := ⟨_, rfl⟩
          rw [hrl] at hi hi' cr HCG hRLb
          clear hx hiR hrl
          go_upto_region 13 with fail
          clear cr ci fi cn
          refine wp_calm ?_
          refine wp_region_held (S := fun W4 => Below wr.heap.size wr W4) (by kernel_rfl) ?_
          change wpAnyH _ _ _ _ _ _ _ _ (World.drew _)
          have SW : Below wr.heap.size wr wr.drew := (Below.refl _ wr).drew
          refine wpAnyH_take (i := 0) (v := .agg (gdA n n (some ⟨cb, co, none⟩) N bc)) rfl (by kernel_rfl) (by kernel_rfl) (by kernel_rfl) (fun _ _ _ h => h) (yieldsIf_load_mid (by rfl) 55 _ rfl w.heap.size 0 (by rfl) [.int .i64 n, .int .i64 n, .slice (some ⟨cb, co, none⟩) N bc] _ (fun W hW => HGR.out W hW) Tryd.underlying55 rfl size55) SW ?_
          go_simp
          refine wpAnyH_take (i := 1) (v := .slice (some ⟨gr, 0, none⟩) rl rc0) rfl (by kernel_rfl) (by kernel_rfl) (by kernel_rfl) (fun _ _ _ h => h) (Or.inl ⟨by rfl, ?_⟩) SW ?_
          · intro W4 hW4
            have x0 := HCG.out W4 hW4
            go_simp <;> first | done | rfl | (rw [IntKind.wrap_i64]; omega) | omega
          go_simp
          refine wpAnyH_take (i := 2) (v := .int .i64 i) rfl (by kernel_rfl) (by kernel_rfl) (by kernel_rfl) (fun _ _ _ h => h) (Or.inl ⟨by rfl, ?_⟩) SW ?_
          · intro W4 hW4
            have x0 := HCI.out W4 hW4
            go_simp <;> first | done | rfl | (rw [IntKind.wrap_i64]; omega) | omega
          go_simp
          refine wpAnyH_take (i := 3) (v := .pointer (some ⟨gr, i, none⟩)) rfl (by kernel_rfl) (by kernel_rfl) (by kernel_rfl) (fun _ _ _ h => h) (Or.inl ⟨by rfl, ?_⟩) SW ?_
          · intro W4 hW4
            go_simp <;> first | done | rfl | (rw [IntKind.wrap_i64]; omega) | omega
          go_simp
          refine wpAnyH_take (i := 4) (v := .int .i64 x) rfl (by kernel_rfl) (by kernel_rfl) (by kernel_rfl) (fun _ _ _ h => h) (Or.inl ⟨by rfl, ?_⟩) SW ?_
          · intro W4 hW4
            have x0 := HCX.out W4 hW4
            go_simp <;> first | done | rfl | (rw [IntKind.wrap_i64]; omega) | omega
          go_simp
          refine wpAnyH_ready (rs := [5]) (by kernel_rfl) (by simp) ?_
          refine AllReadyH.cons rfl (fun K1 hK1 => ?_) AllReadyH.nil
          go_simp
          refine (neighbours_any x n (some ⟨cb, co, none⟩) N bc _).mono ?_
          rintro e w0 ⟨rfl, hw0⟩
          have RN : NbR (wr.heap.size + 1) wr.heap.size x n (some ⟨cb, co, none⟩) N bc w0 := by rw [hw0]; exact NbR.new x n _ N bc wr.drew HTW.out
          have BW : Below wr.heap.size wr w0 := by rw [hw0]; exact (SW.alloc (by simp) _).alloc (by simp) _
          have hs0 : wr.heap.size + 2 ≤ w0.heap.size ∧ w0.heap.size ≤ wr.heap.size + 2 := by rw [hw0]; simp
          have HRN := hide RN
          have HBW := hide BW
          have HSZ := hide hs0
          refine hK1.out _ _ BW (fun SW => ?_)
          clear RN hw0 hs0 hK1 K1
          refine wpAnyH_done (by kernel_rfl) ?_ _
          go_wp2_with fail
          have HNW := hide (HN0.out.mono BW)
          have HFW := hide (HFB1.out.mono BW)
          have HIW := hide (HIB.out.mono BW)
          have HMW := hide (HMK.out.below BW)
          have HBLW : Hid (Below w.heap.size w w0) := hide (HBL.out.trans (BW.mono HBL.out.size))
          have HIBL : Hid (ib < wr.heap.size) := hide HIB.out.lt
          have HRBL : Hid (rb < wr.heap.size ∧ gN < wr.heap.size ∧ fb < wr.heap.size ∧ L2 ≤ wr.heap.size) := hide ⟨HR1.out.lt, HN0.out.row.lt, HFB1.out.lt, by have := HIB.out.lt; have := HLB.out; omega⟩
          clear SW BW
          refine (wpIn_wide (n := 1)).1 (wp_range_q (gf := 64) (lb := #[.pointer (some ⟨wr.heap.size + 1, 0, none⟩), .pointer (some ⟨wr.heap.size, 0, none⟩)]) (G := NbG) (xs := nbs n x) (R := NbR (wr.heap.size + 1) wr.heap.size x n (some ⟨cb, co, none⟩) N bc) (T := NbT (wr.heap.size + 1) wr.heap.size) (c := 0) (by simp [Act.eval]) (enters_of Tryd.func64 (by kernel_rfl) rfl)
            (nb1_seq _ _ x n _ N bc hn HXN.out) (fun k hk => HRN.out.lt k hk) (fun A B hA hk => hA.keeps hk (fun k hk h => h hk)) HRN.out (fun k => k = gN ∨ k = rb ∨ S0 k ∨ w0.heap.size + 2 ≤ k) ?hX (fun x args W' hG => by rw [hG]; rfl)
            (fun pre W' => ∃ T' RL', Ns w.heap.size wb nb rb gN L2 n cb co N bc m Z (fun g => S0 g ∨ w0.heap.size + 2 ≤ g) W' T' RL' ∧ Rg n Z m T RL i x pre T' RL' ∧ Keeps (fun k => k = gN ∨ k = rb ∨ S0 k) w0 W') (fun _ _ => False) ?hI (fun _ _ _ h _ => h) ⟨T, RL, HNW.out.wide (fun q _ e => Or.inl e), HRG.out, Keeps.refl _ _⟩ ?round ?done (fun _ _ _ _ h => h.elim))
          case hX =>
            intro q hq
            have e2 := HSZ.out
            have e3 := HRBL.out
            have e5 := HFB.out
            have e6 := HTL.out
            unfold NbT
            have e4 : S0 q → q < wr.heap.size ∧ L2 ≤ q := fun h => ⟨(HS0.out q h).1, (HS0.out q h).2.1⟩
            refine ⟨fun ht => ?_, fun e => ?_⟩
            · rcases hq with h | h | h | h <;> first | omega | (have := e4 h; omega)
            · rcases hq with h | h | h | h <;> first | omega | (have := e4 h; omega)
          case hI =>
            rintro s A B ⟨T', RL', j1, j2, j3⟩ hk
            have e2 := HSZ.out
            have e3 := HRBL.out
            have e5 := HDS.out.lt
            refine ⟨T', RL', j1.keeps hk ⟨fun e => by omega, fun e => by omega, fun e => by omega, fun e => by omega, fun e => by omega, fun e => by omega⟩ (fun q hq e => ?_), j2, j3.after hk (fun i hi e => by omega)⟩
            rcases hq with h | h
            · have := (HS0.out q h).1; omega
            · omega
          case round =>
            rintro l2 pre r args W1 hl2 ⟨rec, hrec⟩ ⟨T', RL', j1, j2, j3⟩ hpre hG hsz
            obtain rfl : args = #[.int .i64 r] := hG
            have hrm : r ∈ nbs n x := hpre.subset (show r ∈ pre ++ [r] by simp)
            have hrN : r < N := by rw [← HNN.out]; exact nbs_lt hrm
            have HJ1 := hide j1
            have HJ2 := hide j2
            have HJ3 := hide j3
            have HRM := hide hrm
            clear j1 j2 j3 hpre hrm hrec
            gi_wp2
            refine ⟨Keeps.refl _ _, ?_⟩
            intro W3 hk3
            have e2 := HSZ.out
            have e3 := HRBL.out
            have e5 := HDS.out.lt
            have e6 := HIBL.out
            have e7 := HFB.out
            have hl2' : w0.heap.size + 1 ≤ l2 ∧ l2 ≤ w0.heap.size + 1 := by omega
            have N3 : Ns w.heap.size wb nb rb gN L2 n cb co N bc m Z (fun g => S0 g ∨ w0.heap.size + 2 ≤ g) W3 T' RL' := HJ1.out.keeps hk3 ⟨fun e => by omega, fun e => by omega, fun e => by omega, fun e => by omega, fun e => by omega, fun e => by omega⟩ (fun q hq e => by
              rcases hq with h | h
              · have := (HS0.out q h).1; omega
              · omega)
            have K3 : Keeps (fun k => k = gN ∨ k = rb ∨ S0 k) w0 W3 := HJ3.out.after hk3 (fun i hi e => by omega)
            have F3 : Vb W3 fb 84 [.func (.func 62) #[] #[.pointer (some ⟨w.heap.size, 0, none⟩), .pointer (some ⟨wb, 0, none⟩), .pointer (some ⟨nb, 0, none⟩), .pointer (some ⟨rb, 0, none⟩)]] := HFW.out.keeps K3 (fun e => by rcases e with e | e | e <;> first | omega | (have := (HS0.out _ e).2.1; omega))
            have I3 : Vb W3 ib 3 [.int .i64 i] := HIW.out.keeps K3 (fun e => by
              have := HLB.out
              rcases e with e | e | e
              · omega
              · omega
              · exact (HS0.out _ e).2.2.1 rfl)
            have hs3 : w0.heap.size + 2 ≤ W3.heap.size := Nat.le_trans hsz hk3.size
            obtain ⟨S1, N1, hS1⟩ := N3.own
            obtain ⟨ra, rc1, q1, q2, -⟩ := N1.rc
            have hrl1 : i < RL'.length := Nat.lt_of_lt_of_le HIL.out HJ2.out.pr.length_le
            obtain ⟨gr1, rc2, hrv, -⟩ := own_some q2 (by omega)
            simp only [Value.slice.injEq] at hrv
            obtain ⟨rfl, -, rfl⟩ := hrv
            have hx1 : RL'.getD i 0 = x := by
              obtain ⟨t, ht⟩ := HJ2.out.pr
              rw [← ht, getD_appN HIL.out]
              exact HX.out
            have HTX : Hid (T'.getD x 0 = T.getD x 0) := hide HJ2.out.tx
            have HRCH := hide (HJ2.out.st.reach (q := r) (c := T.getD x 0) (by rw [HNN.out]; exact hrN) (fun hp => by
              have h1 := HJ2.out.st.snd x HXN.out (by rw [HTX.out]; exact HX100.out)
              rw [HTX.out] at h1
              exact .step h1 HRM.out hp))
            have hD3 : Below W3.heap.size W3 W3.drew := (Below.refl _ W3).drew
            have HCR := hide (HRE.out W3.drew T' RL' r (T.getD x 0) hrN (Nat.le_trans HX100.out (by omega)) (show L2 ≤ W3.heap.size by omega) HJ2.out.st S1 (N1.mono hD3))
            obtain ⟨tx, htx⟩ : ∃ tx, T.getD x 0 = tx := ⟨_, rfl⟩
            rw [htx] at HRCH HCR HTX
            have cTX : W3.drew.cell? ⟨gN, x, none⟩ = some (.int .i64 tx) := by
              have hxl : x < T'.length := by rw [HJ2.out.st.len]; exact HXN.out
              rw [(N1.row.below hD3 N1.row.lt).cell (by rw [toI_len]; exact hxl), toI_getD hxl, HTX.out]
            have cRX : W3.drew.cell? ⟨gr1, i, none⟩ = some (.int .i64 x) := by
              show W3.cell? _ = _
              rw [q2.cellAt i (by omega), ← hx1, ← toI_getD hrl1]
              have hil : i < (toI RL').length := by rw [toI_len]; exact hrl1
              simp [List.getD, hil]
            have cRB : W3.drew.cell? ⟨rb, 0, none⟩ = some (.slice (some ⟨gr1, 0, none⟩) RL'.length rc1) := (q1.mono hD3).cell (i := 0) rfl
            have hxN : (x : Int) < (N : Int) := by have := HXN.out; rw [HNN.out] at this; omega
            have hrl2 : (i : Int) < (RL'.length : Int) := by omega
            have HSS : Hid (∀ g, S1 g → g < W3.heap.size ∧ L2 ≤ g ∧ (S0 g ∨ w0.heap.size + 2 ≤ g)) := hide (fun g hg => ⟨(hS1 g hg).1, (hS1 g hg).2.1, (hS1 g hg).2.2.1⟩)
            have HSI : Hid (∀ W4, Keeps (fun k => k = gN ∨ k = rb ∨ S1 k) W3 W4 → W4.cell? ⟨fb, 0, none⟩ = some (.func (.func 62) #[] #[.pointer (some ⟨w.heap.size, 0, none⟩), .pointer (some ⟨wb, 0, none⟩), .pointer (some ⟨nb, 0, none⟩), .pointer (some ⟨rb, 0, none⟩)]) ∧ W4.cell? ⟨nb, 0, none⟩ = some (.slice (some ⟨gN, 0, none⟩) N N) ∧ W4.cell? ⟨ib, 0, none⟩ = some (.int .i64 i)) := hide (fun W4 hk => by
              have dd := HDS.out
              have hlb := HLB.out
              refine ⟨(F3.keeps hk (fun e => ?_)).cell (i := 0) rfl, (N1.nd.keeps hk (fun e => ?_)).cell (i := 0) rfl, (I3.keeps hk (fun e => ?_)).cell (i := 0) rfl⟩
              · rcases e with e | e | e <;> first | omega | (have := (hS1 _ e).2.1; omega)
              · rcases e with e | e | e
                · exact dd.g.2.2.1 e.symm
                · exact dd.r.2.2.1 e.symm
                · have := (hS1 _ e).2.1; have := dd.lt; omega
              · rcases e with e | e | e
                · omega
                · omega
                · rcases (hS1 _ e).2.2.1 with h | h
                  · exact (HS0.out _ h).2.2.1 rfl
                  · omega)
            have HK3 := hide K3
            have HS3 := hide hs3
            obtain ⟨rl1, hrl1e⟩ : ∃ rl1, RL'.length = rl1 := ⟨_, rfl⟩
            rw [hrl1e] at cRB hrl2
            obtain ⟨R1, hR1⟩ : ∃ R1, (rch Z m T' RL' r tx).1 = R1 := ⟨_, rfl⟩
            obtain ⟨R2, hR2⟩ : ∃ R2, (rch Z m T' RL' r tx).2 = R2 := ⟨_, rfl⟩
            rw [hR1, hR2] at HCR HRCH
            have HTXE := hide htx
            clear hl2 hl2' e2 e3 e5 e6 e7 N3 K3 F3 I3 hs3 N1 hS1 q1 q2 hrl1 hx1 hk3 HJ1 HJ3 hrl1e hR1 hR2 htx HTX
            gi_wp2
            refine wp_region_round (S := fun W4 => Keeps (fun k => k = gN ∨ k = rb ∨ S1 k) W3 W4) (by kernel_rfl) (by kernel_rfl) (by rintro ⟨_, _, h⟩; exact h) ?_
            have SW : Keeps (fun k => k = gN ∨ k = rb ∨ S1 k) W3 W3.drew := (Keeps.refl _ W3).drew
            refine wpAnyH_take (i := 0) (v := .func (.func 62) #[] #[.pointer (some ⟨w.heap.size, 0, none⟩), .pointer (some ⟨wb, 0, none⟩), .pointer (some ⟨nb, 0, none⟩), .pointer (some ⟨rb, 0, none⟩)]) rfl (by kernel_rfl) (by kernel_rfl) (by kernel_rfl) (fun _ _ _ h => h) (Or.inl ⟨by rfl, ?_⟩) SW ?_
            · intro W4 hW4
              obtain ⟨x0, x1, x2⟩ := HSI.out W4 hW4
              go_simp <;> first | done | rfl | (rw [IntKind.wrap_i64]; omega) | omega
            go_simp
            refine wpAnyH_take (i := 1) (v := .int .i64 r) rfl (by kernel_rfl) (by kernel_rfl) (by kernel_rfl) (fun _ _ _ h => h) (Or.inl ⟨by rfl, ?_⟩) SW ?_
            · intro W4 hW4
              obtain ⟨x0, x1, x2⟩ := HSI.out W4 hW4
              go_simp <;> first | done | rfl | (rw [IntKind.wrap_i64]; omega) | omega
            go_simp
            refine wpAnyH_take (i := 2) (v := .slice (some ⟨gN, 0, none⟩) N N) rfl (by kernel_rfl) (by kernel_rfl) (by kernel_rfl) (fun _ _ _ h => h) (Or.inl ⟨by rfl, ?_⟩) SW ?_
            · intro W4 hW4
              obtain ⟨x0, x1, x2⟩ := HSI.out W4 hW4
              go_simp <;> first | done | rfl | (rw [IntKind.wrap_i64]; omega) | omega
            go_simp
            refine wpAnyH_take (i := 4) (v := .int .i64 i) rfl (by kernel_rfl) (by kernel_rfl) (by kernel_rfl) (fun _ _ _ h => h) (Or.inl ⟨by rfl, ?_⟩) SW ?_
            · intro W4 hW4
              obtain ⟨x0, x1, x2⟩ := HSI.out W4 hW4
              go_simp <;> first | done | rfl | (rw [IntKind.wrap_i64]; omega) | omega
            go_simp
            refine wpAnyH_ready (rs := [3]) (by kernel_rfl) (by simp) ?_
            refine AllReadyH.cons rfl (fun K1 hK1 => ?_) AllReadyH.nil
            go_simp
            refine hK1.out _ _ SW (fun SW => ?_)
            clear hK1 K1
            refine wpAnyH_take (i := 5) (v := .pointer (some ⟨gr1, i, none⟩)) rfl (by kernel_rfl) (by kernel_rfl) (by kernel_rfl) (fun _ _ _ h => h) (Or.inl ⟨by rfl, ?_⟩) SW ?_
            · intro W4 hW4
              go_simp <;> first | done | rfl | (rw [IntKind.wrap_i64]; omega) | omega
            go_simp
            refine wpAnyH_ready (rs := [6]) (by kernel_rfl) (by simp) ?_
            refine AllReadyH.cons rfl (fun K1 hK1 => ?_) AllReadyH.nil
            go_simp
            refine hK1.out _ _ SW (fun SW => ?_)
            clear hK1 K1
            refine wpAnyH_take (i := 7) (v := .pointer (some ⟨gN, x, none⟩)) rfl (by kernel_rfl) (by kernel_rfl) (by kernel_rfl) (fun _ _ _ h => h) (Or.inl ⟨by rfl, ?_⟩) SW ?_
            · intro W4 hW4
              go_simp <;> first | done | rfl | (rw [IntKind.wrap_i64]; omega) | omega
            go_simp
            refine wpAnyH_ready (rs := [8]) (by kernel_rfl) (by simp) ?_
            refine AllReadyH.cons rfl (fun K1 hK1 => ?_) AllReadyH.nil
            go_simp
            refine hK1.out _ _ SW (fun SW => ?_)
            clear hK1 K1
            refine wpAnyH_ready (rs := [9]) (by kernel_rfl) (by simp) ?_
            refine AllReadyH.cons rfl (fun K1 hK1 => ?_) AllReadyH.nil
            go_simp
            refine HCR.out.mono ?_
            rintro e W5 ⟨rfl, hN5, hk5⟩
            have SW5 : Keeps (fun k => k = gN ∨ k = rb ∨ S1 k) W3 W5 := SW.trans hk5
            refine hK1.out _ _ SW5 (fun SW => ?_)
            clear hK1 K1
            refine wpAnyH_done (by kernel_rfl) ?_ _
            have e2 := HS3.out
            have HN5 : Hid (Ns w.heap.size wb nb rb gN L2 n cb co N bc m Z (fun g => S0 g ∨ w0.heap.size + 2 ≤ g) W5 R1 R2) := hide (hN5.wide (fun g _ hg => by
              rcases hg with h | h
              · exact (HSS.out g h).2.2
              · right
                have : W3.heap.size ≤ g := h
                omega))
            have HRG2 := hide (HJ2.out.step HIL.out HRM.out (by rw [HTXE.out]; exact HRCH.out))
            have HK5 : Hid (Keeps (fun k => k = gN ∨ k = rb ∨ S0 k) w0 W5) := hide (HK3.out.after SW5 (fun q hq e => by
              rcases e with e | e | e
              · exact Or.inl e
              · exact Or.inr (Or.inl e)
              · rcases (HSS.out q e).2.2 with h | h
                · exact Or.inr (Or.inr h)
                · omega))
            have HKD : Hid (Keeps (fun k => k = gN ∨ k = rb ∨ S0 k ∨ w0.heap.size + 2 ≤ k) W3 W5) := hide (SW5.mono (fun q _ e => by
              rcases e with e | e | e
              · exact Or.inl e
              · exact Or.inr (Or.inl e)
              · exact Or.inr (Or.inr (HSS.out q e).2.2)))
            clear hN5 hk5 SW5 SW cTX cRX cRB e2
            gi_wp2
            exact ⟨HKD.out, R1, R2, HN5.out, HRG2.out, HK5.out⟩
          case done =>
            rintro D W7 hD ⟨T', RL', j1, j2, j3⟩ _ hKD
            subst hD
            have e2 := HSZ.out
            have e3 := HRBL.out
            have e7 := HFB.out
            have hlb := HLB.out
            have hil := HIBL.out
            have e5 := HDS.out.lt
            have HF7 := hide (HFW.out.keeps j3 (fun e => by rcases e with e | e | e <;> first | omega | (have := (HS0.out _ e).2.1; omega)))
            have I7 := HIW.out.keeps j3 (fun e => by
              rcases e with e | e | e
              · omega
              · omega
              · exact (HS0.out _ e).2.2.1 rfl)
            have c7 := I7.cell (i := 0) rfl
            have HM7 := hide (HMW.out.push j3 (not_deferred (fun q hq _ => by
              rcases hq with e | e | e
              · rw [e]; exact ⟨_, _, HNW.out.row⟩
              · rw [e]; obtain ⟨ra, rc1, q1, -, -⟩ := HNW.out.rc; exact ⟨_, _, q1⟩
              · obtain ⟨h1, -, -, cur, hc⟩ := HS0.out q e
                exact ⟨cur, 3, (HBW.out.block q h1).trans hc⟩)) (Nat.le_refl _) (by have := HBLW.out.size; omega) hKD)
            have HB7 : Hid (Below w.heap.size w W7) := hide (HBLW.out.trans (j3.below (by have := HBLW.out.size; omega) (fun q hq e => by rcases e with e | e | e <;> first | omega | (have := (HS0.out _ e).2.1; omega))))
            obtain ⟨S7, N7, hS7⟩ := j1.own
            have HN7 : Hid (Ns w.heap.size wb nb rb gN L2 n cb co N bc m Z (fun g => g ≠ W7.heap.size) (W7.alloc (.cells #[.int .i64 ((i : Int) + 1)] 3)) T' RL') := hide ((N7.wide (S' := fun g => g ≠ W7.heap.size) (fun g _ hg => by have := (hS7 g hg).1; omega)).mono ((Below.refl _ _).alloc (Nat.le_refl _) _))
            have HJ2 := hide j2
            have HCL7 := hide j2.done
            have HL7 : Hid (L2 ≤ W7.heap.size) := hide (by have := j3.size; omega)
            clear j1 j2 j3 hKD e2 e3 e5 e7 hlb hil I7 N7 hS7 S7
            go_wp2_with fail
            refine ⟨RL'.length - (i + 1) + T'.sum, ?_, _, _, _, _, _, _, _, _, _, _, _, _, _, _, _, _, _, _, _, _, _, _, _, _, _, _, _, _, _, _, _, _, _, _, _, _, _, _, _, _, _, _, _, _, _, _, _, _, _, _, _, _, W7.heap.size, _, i + 1, T', RL', rfl, ?_, HN7.out, HF7.out.old _, Vb.new W7 3 [.int .i64 ((i : Int) + 1)], HJ2.out.st, HCL7.out, HJ2.out.sd, HB7.out.alloc HB7.out.size _, HL7.out, HM7.out.below ((Below.refl _ _).alloc (Nat.le_refl _) _), rfl⟩
            · have h1 := HJ2.out.sum
              have h2 := HJ2.out.pr.length_le
              have h3 := HGQ.out
              have h4 := HIL.out
              omega
            · have h2 := HJ2.out.pr.length_le
              have h4 := HIL.out
              omega
        · obtain rfl : RL.length = i := by omega
          have hi' : ¬ (RL.length : Int) < (RL.length : Int) := by omega
          go_wp2_with fail
          refine leaves_marks HMK.out (fun w9 hk9 => ?_)
          refine ⟨_, results_tmp rfl _ _ _, ⟨gN, T, RL, rfl, ?_, HST.out, HCL.out, HSD.out, ?_⟩⟩
          · exact HN0.out.row.keeps hk9 (fun e => by
              have h1 : wr.heap[gN]? = _ := HN0.out.row
              rw [e.2] at h1
              simp at h1)
          · exact HBL.out.trans (hk9.below HBL.out.size (fun q hq e => by omega))

end Go.Proofs.YtldgikinmmkhiaaDoor
