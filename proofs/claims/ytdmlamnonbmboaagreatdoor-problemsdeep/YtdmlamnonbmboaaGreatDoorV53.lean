/-
  Keep: the problems' law of depth. No conditions beyond those that each theorem bears.
-/
import Derived.Test.YtdmlamnonbmboaaGreatDoorV52
import Derived.Test.YtdmlamnonbmboaaGreatDoorV06
namespace Go.Proofs.YtdmlamnonbmboaaGreatDoor
open Go.RowKit Go.Shelf

attribute [local irreducible] mvs nxP mtP skP ckP mS pci bG begZ MayC begShown begS dpv
attribute [local go_sem] Oper.semAt_some wide_fn wide_fn0 wide_depth

theorem may_e {p : Ps} (h : MayP p) : -9223372036854775808 ≤ p.e ∧ p.e ≤ 9223372036854775807 := by
  have h1 := h.pas
  unfold Pas at h1
  omega
theorem flM_zero {L : List (Nat × Nat × Nat)} (h : 0 < L.length) : (flM L)[0]? = some ((flM L)[0]'(by rw [flM_len]; omega)) := List.getElem?_eq_getElem _
theorem mvC_lt {m : Nat × Nat × Nat} {j : Nat} {u : Value} (h : (mvC m)[j]? = some u) : j < 3 := (List.getElem?_eq_some_iff.1 h).1
theorem rd_lt {w : World} {ad : Option Addr} {cc : Nat} {Z : List Int} (h : Rd w ad 64 cc Z) {b off : Nat} (hb : ad = some ⟨b, off, none⟩) : b < w.heap.size := by
  subst hb
  have h1 := (h.cell (i := 0) (by decide)).2
  exact World.block_lt_of_cell? w _ h1
theorem rd_ch {w : World} {ad : Option Addr} {cc : Nat} {Z : List Int} (h : Rd w ad 64 cc Z) {b off : Nat} (hb : ad = some ⟨b, off, none⟩) (hc : Ch w b none 0 0 0 0 0 0 0) : False := by
  subst hb
  have h0 := (h.cell (i := 63) (by decide)).2
  have hh : w.heap[b]? = _ := hc
  have hn : (chA none 0 0 0 0 0 0 0)[off + 63]? = none := Array.getElem?_eq_none (by show 6 ≤ off + 63; omega)
  simp [World.cell?, hh] at h0
theorem wpList_loadw_vb {ops : Array Oper} {rest : List Oper} {op : Oper} {a : Act} {w : World} {Q : Exit → Act → World → Prop} (hw : Region.wanted op (yielded ops a.tmps) = true) (t : Nat) (x : Operand) (ho : op.op = .load t x)
    (g : Nat) (hx : a.eval x = .pointer (some ⟨g, 0, none⟩)) {L : List Value} (hs : RowT t L.length) (hc : Vb w g t L)
    (h : wpList Tryz.prog ops Q rest (a.put op.dst (.agg L.toArray)) w) : wpList Tryz.prog ops Q (op :: rest) a w := by
  obtain ⟨d, hu, hd⟩ := hs.u
  exact wpList_wanted hw fun _ hK => wp_load_row t x ho g hx t _ (0, 0) d hc hu (by cases d <;> first | rfl | cases hd) (by rw [List.size_toArray]; exact hs.s) (hK _ _ h)
theorem wp_store_ch0 {o : Oper} {a : Act} {w : World} {K : Act → World → Prop} {Q : Exit → Act → World → Prop} (x y : Operand) (ho : o.op = .store 24 x y)
    (b : Nat) {ad : Option Addr} {n c : Nat} {t k e h f : Int} {ad' : Option Addr} {n' c' : Nat} {t' k' e' h' f' : Int} (hx : a.eval x = .pointer (some ⟨b, 0, none⟩)) (hy : a.eval y = .agg (chA ad n c t k e h f)) (hb : Ch w b ad' n' c' t' k' e' h' f')
    (hK : ∀ w', Ch w' b ad n c t k e h f → Keeps (fun k => k = b) w w' → K (a.put o.dst undef) w') : o.wp Tryz.prog a w K Q := by
  have hb' : w.heap[b]? = _ := hb
  refine wp_store_row 24 x y ho b (chA ad n c t k e h f) hx hy 24 _ hb' size24 rfl (by simp [Value.oneCell']) ?_
  refine hK _ ?_ ?_
  · simp [Ch, World.setRow, Array.getElem?_modify, hb']
  · exact ⟨rfl, rfl, rfl, by simp [World.setRow], fun k _ hk => by simp [World.setRow, Array.getElem?_modify, show ¬ b = k from fun e => hk e.symm]⟩

set_option maxRecDepth 100000 in
set_option maxHeartbeats 64000000 in
theorem deep_no (a : Option Addr) (n c : Nat) (Z : List Int) (t k e h f mx : Int) (he1 : -9223372036854775808 ≤ e) (he2 : e ≤ 9223372036854775807) (w : World) (hz : Rd w a n c Z) (hm : w.cell? ⟨3, 0, none⟩ = some (.int .i64 mx)) (h4 : 4 ≤ w.heap.size) (hT : Tabs w) (hM : ¬ MayC Z t k e h f) :
    Calls Tryz.prog 4 #[.agg (chA a n c t k e h f)] w fun r w' => r = .returned (.bool true) ∧ Below w.heap.size w w' := by
  obtain ⟨w1, hw1⟩ : ∃ w1, w.alloc (.cells (chA a n c t k e h f) 24) = w1 := ⟨_, rfl⟩
  have B1 : Below w.heap.size w w1 := by rw [← hw1]; exact (Below.refl _ w).alloc (Nat.le_refl _) _
  have C1 : Ch w1 w.heap.size a n c t k e h f := by rw [← hw1]; exact Ch.new w a n c t k e h f
  have s1 : w1.heap.size = w.heap.size + 1 := by rw [← hw1]; simp
  have HB0 := hide B1
  have HCH : Hid (∀ W, Below w1.heap.size w1 W → Ch W w.heap.size a n c t k e h f) := hide (fun W hb => C1.below hb C1.lt)
  have HZW : Hid (∀ W, Below w1.heap.size w1 W → Rd W a n c Z) := hide (fun W hb => (hz.mono B1).mono hb)
  have HTW : Hid (∀ W, Below w1.heap.size w1 W → Tabs W) := hide (fun W hb => (hT.mono B1).mono hb)
  have HBG := hide (begins_any mx w1 ((B1.cell (p := ⟨3, 0, none⟩) (by show 3 < _; omega)).trans hm) (by omega) (hT.mono B1))
  have HAL := hide (fun W hW => All_no a n c Z t k e h f he1 he2 W (HZW.out W hW) (HTW.out W hW) hM)
  have HBE := hide (fun W hW => Best_no a n c Z t k e h f he1 he2 W (HZW.out W hW) (HTW.out W hW) 1 hM)
  clear hz hT B1 C1 hm s1 hM
  go_enter Tryz.func4, Tryz.ntmps4
  go_upto_region 1 with fail
  try rw [hw1]
  clear hw1
  go_wp2_with fail
  refine HBG.out.mono ?_
  rintro r w2 ⟨rfl, hb⟩
  have HB2 : Hid (Below w1.heap.size w1 w2) := hide hb
  have hch := HCH.out w2 HB2.out
  clear hb HBG
  go_wp2_with (refine wpList_load_ch rfl (.tmp 1) rfl w.heap.size rfl hch ?_)
  refine (HAL.out w2 HB2.out).mono ?_
  rintro r w3 ⟨rfl, hb⟩
  have HB3 : Hid (Below w1.heap.size w1 w3) := hide (HB2.out.trans (hb.mono HB2.out.size))
  have hch3 := HCH.out w3 HB3.out
  clear hb HAL hch
  go_wp2_with (refine wpList_load_ch rfl (.tmp 1) rfl w.heap.size rfl hch3 ?_)
  refine (HBE.out w3 HB3.out).mono ?_
  rintro r w4 ⟨rfl, hb⟩
  have HB4 : Hid (Below w1.heap.size w1 w4) := hide (HB3.out.trans (hb.mono HB3.out.size))
  clear hb HBE hch3
  obtain ⟨d, hd⟩ : ∃ d, w4.heap.size = d := ⟨_, rfl⟩
  have VD : Vb (w4.alloc (.cells #[.int .i64 0, .int .i64 0, .int .i64 0] 32)) d 32 [.int .i64 0, .int .i64 0, .int .i64 0] := by rw [← hd]; exact Vb.new w4 32 _
  have b5 : Below w4.heap.size w4 (w4.alloc (.cells #[.int .i64 0, .int .i64 0, .int .i64 0] 32)) := (Below.refl _ _).alloc (Nat.le_refl _) _
  go_upto_region 5 with (refine wpList_store_vb rfl 32 (.tmp 6) (.tmp 27) rfl d (mvC (0, 0, 0)) _ (by simp [Act.eval]) rfl VD rfl row26 (mvC_one _) ?_; intro w6 V6 K6)
  have HB6 : Hid (Below w1.heap.size w1 w6) := hide (HB4.out.trans ((b5.trans (K6.below b5.size (fun j hj q => by omega))).mono HB4.out.size))
  clear VD b5 K6 V6 hd
  go_wp2_with fail
  go_ret
  exact ⟨rfl, HB0.out.trans (HB6.out.mono HB0.out.size)⟩

set_option maxRecDepth 100000 in
set_option maxHeartbeats 64000000 in
theorem deep_yes (a : Option Addr) (c : Nat) (p : Ps) (hM : MayP p) (mx : Int) (he1 : -9223372036854775808 ≤ p.e) (he2 : p.e ≤ 9223372036854775807) (w : World) (hz : Rd w a 64 c p.Z) (hm : w.cell? ⟨3, 0, none⟩ = some (.int .i64 mx)) (h4 : 4 ≤ w.heap.size) (hT : Tabs w) (hW : TabW w) :
    Calls Tryz.prog 4 #[.agg (chA a 64 c (p.t : Nat) (p.k : Nat) p.e (p.h : Nat) (p.f : Nat))] w fun r w' => r = .returned (.bool true) ∧ Below w.heap.size w w' := by
  obtain ⟨w1, hw1⟩ : ∃ w1, w.alloc (.cells (chA a 64 c (p.t : Nat) (p.k : Nat) p.e (p.h : Nat) (p.f : Nat)) 24) = w1 := ⟨_, rfl⟩
  obtain ⟨g, hg⟩ : ∃ g, w.heap.size = g := ⟨_, rfl⟩
  have B1 : Below w.heap.size w w1 := by rw [← hw1]; exact (Below.refl _ w).alloc (Nat.le_refl _) _
  have C1 : Ch w1 g a 64 c (p.t : Nat) (p.k : Nat) p.e (p.h : Nat) (p.f : Nat) := by rw [← hw1, ← hg]; exact Ch.new w a 64 c _ _ _ _ _
  have s1 : w1.heap.size = w.heap.size + 1 := by rw [← hw1]; simp
  have HB0 := hide B1
  have HCH : Hid (∀ W, Below w1.heap.size w1 W → Ch W g a 64 c (p.t : Nat) (p.k : Nat) p.e (p.h : Nat) (p.f : Nat)) := hide (fun W hb => C1.below hb C1.lt)
  have HZW : Hid (∀ W, Below w1.heap.size w1 W → Rd W a 64 c p.Z) := hide (fun W hb => (hz.mono B1).mono hb)
  have HTW : Hid (∀ W, Below w1.heap.size w1 W → Tabs W) := hide (fun W hb => (hT.mono B1).mono hb)
  have HWW : Hid (∀ W, Below w1.heap.size w1 W → TabW W) := hide (fun W hb => (hW.mono B1).mono hb)
  have HBG := hide (begins_any mx w1 ((B1.cell (p := ⟨3, 0, none⟩) (by show 3 < _; omega)).trans hm) (by omega) (hT.mono B1))
  have HAL := hide (fun W hW => All_yes a c p hM W (HZW.out W hW) (HTW.out W hW))
  have HBE := hide (fun W hW => Best_yes a c p hM 1 (by omega) he1 he2 W (HZW.out W hW) (HTW.out W hW) (HWW.out W hW))
  have HNIL := hide (deep_nil (p := p))
  have HFOLD := hide (deep_fold hM)
  have HDO := hide (fun m (hmm : m ∈ mvs p) W hW => Do_yes a c p hM W (HZW.out W hW) (HTW.out W hW) m hmm)
  have HLEN := hide (mvs_len p)
  have HMN := hide (fun m (hmm : m ∈ mvs p) => may_nx hM hmm)
  have HBD := hide (fun m (hmm : m ∈ mvs p) => dpv_bd hM hmm)
  have HDP : Hid (∀ m, dpv p m = if (bG (-1001) 0 0 (nxP p m)).1 = -1000 then -999 else (bG (-1001) 0 0 (nxP p m)).1) := hide (fun m => by unfold dpv; rfl)
  obtain ⟨r0, hr0⟩ : ∃ r0, bG (-1001) 1 0 p = r0 := ⟨_, rfl⟩
  rw [hr0] at HBE HNIL HFOLD
  have HG := hide hg
  have HW1 := hide hw1
  have HSZ : Hid (w1.heap.size = g + 1) := hide (by rw [s1, hg])
  clear hz hT hW B1 C1 hm s1 hM hr0 hw1 hg
  go_enter Tryz.func4, Tryz.ntmps4
  go_upto_region 1 with fail
  try rw [HG.out]
  rw [HW1.out]
  clear HW1
  go_wp2_with fail
  refine HBG.out.mono ?_
  rintro r w2 ⟨rfl, hb⟩
  have HB2 : Hid (Below w1.heap.size w1 w2) := hide hb
  have hch := HCH.out w2 HB2.out
  clear hb HBG
  go_wp2_with (refine wpList_load_ch rfl (.tmp 1) rfl g rfl hch ?_)
  refine (HAL.out w2 HB2.out).mono ?_
  rintro r w3 ⟨v, rfl, hown, hb⟩
  have HB3 : Hid (Below w1.heap.size w1 w3) := hide (HB2.out.trans (hb.mono HB2.out.size))
  have hch3 := HCH.out w3 HB3.out
  have HMR := hide (Mr.of_own hown)
  clear hb HAL hch hown
  go_wp2_with (refine wpList_load_ch rfl (.tmp 1) rfl g rfl hch3 ?_)
  refine (HBE.out w3 HB3.out).mono ?_
  rintro r w4 ⟨rfl, hb⟩
  have HB4 : Hid (Below w1.heap.size w1 w4) := hide (HB3.out.trans (hb.mono HB3.out.size))
  have HMR4 := hide (HMR.out.mono hb)
  clear hb HBE hch3
  obtain ⟨d, hd⟩ : ∃ d, w4.heap.size = d := ⟨_, rfl⟩
  have VD : Vb (w4.alloc (.cells #[.int .i64 0, .int .i64 0, .int .i64 0] 32)) d 32 [.int .i64 0, .int .i64 0, .int .i64 0] := by rw [← hd]; exact Vb.new w4 32 _
  have b5 : Below w4.heap.size w4 (w4.alloc (.cells #[.int .i64 0, .int .i64 0, .int .i64 0] 32)) := (Below.refl _ _).alloc (Nat.le_refl _) _
  go_upto_region 5 with (refine wpList_store_vb rfl 32 (.tmp 6) (.tmp 27) rfl d (mvC r0.2) _ (by simp [Act.eval]) rfl VD rfl row26 (mvC_one _) ?_; intro w6 V6 K6)
  have b46 : Below w4.heap.size w4 w6 := b5.trans (K6.below b5.size (fun j hj q => by omega))
  have HB6 : Hid (Below w1.heap.size w1 w6) := hide (HB4.out.trans (b46.mono HB4.out.size))
  have HMR6 := hide (HMR4.out.mono b46)
  have HV6 := hide V6
  try rw [hd]
  clear VD b5 K6 V6 hd b46
  by_cases hN : mvs p = []
  · obtain ⟨ad, cp, rfl, _, _, _⟩ := HMR6.out.ex
    have hv := HNIL.out hN
    rw [hN]
    obtain ⟨rv, hrv⟩ : ∃ rv, r0.1 = rv := ⟨_, rfl⟩
    rw [hrv] at hv ⊢
    clear HMR HMR4 HMR6
    rcases hv with rfl | rfl
    · go_wp2_with fail
      go_ret
      exact ⟨rfl, HB0.out.trans (HB6.out.mono HB0.out.size)⟩
    · go_wp2_with fail
      go_ret
      exact ⟨rfl, HB0.out.trans (HB6.out.mono HB0.out.size)⟩
  · have hpos : 0 < (mvs p).length := List.length_pos_iff.2 hN
    obtain ⟨ad, cp, rfl, hcp, hcm, hcl0⟩ := HMR6.out.ex
    obtain ⟨gl, rfl, hcl⟩ := hcl0 hpos
    clear hcl0
    have HCL := hide hcl
    obtain ⟨N, hNN⟩ : ∃ N, (mvs p).length = N := ⟨_, rfl⟩
    rw [hNN] at hpos hcp HLEN ⊢
    have HN := hide hNN
    have hNle : N ≤ 16384 := HLEN.out
    have hN0 : ((N : Int) == 0) = false := by rw [beq_eq_false_iff_ne]; omega
    obtain ⟨d2, hd2⟩ : ∃ d2, w6.heap.size = d2 := ⟨_, rfl⟩
    obtain ⟨w7, hw7⟩ : ∃ w7, w6.alloc (.cells #[.int .i64 0, .int .i64 0, .int .i64 0] 32) = w7 := ⟨_, rfl⟩
    have V7 : Vb w7 d2 32 (mvC (0, 0, 0)) := by rw [← hw7, ← hd2]; exact Vb.new w6 32 _
    have b67 : Below w6.heap.size w6 w7 := by rw [← hw7]; exact (Below.refl _ _).alloc (Nat.le_refl _) _
    have HB7 : Hid (Below w1.heap.size w1 w7) := hide (HB6.out.trans (b67.mono HB6.out.size))
    have HV67 := hide (HV6.out.mono b67)
    have HDD : Hid (d < d2) := hide (by rw [← hd2]; exact HV6.out.lt)
    have HD1 : Hid (w1.heap.size ≤ d2) := hide (by rw [← hd2]; exact HB6.out.size)
    have HGL : Hid (gl < d2) := hide (by rw [← hd2]; exact World.block_lt_of_cell? w6 _ (hcl 0 _ (flM_zero (by rw [hNN]; exact hpos))))
    have HCL7 : Hid (∀ W, Keeps (fun j => j = d2) w7 W → ∀ j u, (flM (mvs p))[j]? = some u → W.cell? ⟨gl, j, none⟩ = some u) := hide (fun W hk j u hu => hk.cell ((b67.cell (p := ⟨gl, j, none⟩) (World.block_lt_of_cell? w6 _ (hcl j u hu))).trans (hcl j u hu)) (fun e => by have := HGL.out; have e' : gl = d2 := e; omega))
    have HV7 := hide V7
    have HD2 := hide hd2
    have HW7 := hide hw7
    have HFO : Hid ((mvs p).foldl (bStep (dpv p)) (-10000, (0, 0, 0)) = r0) := hide (HFOLD.out hN)
    have H7S : Hid (w7.heap.size = d2 + 1) := hide (by rw [← hw7, World.size_alloc, hd2])
    clear HMR HMR4 HMR6 hcl b67 V7 hw7 hd2 hNN HNIL HFOLD hcm hN
    go_upto_region 11 with fail
    try rw [HD2.out]
    rw [HW7.out]
    clear HW7
    go_wp2_with fail
    go_loopw [8, 10] (fun bv v wr => ∃ i : Nat, v = .int .i64 i ∧ i ≤ N ∧ bv = .int .i64 (((mvs p).take i).foldl (bStep (dpv p)) (-10000, (0, 0, 0))).1 ∧ Hid (Vb wr d2 32 (mvC (((mvs p).take i).foldl (bStep (dpv p)) (-10000, (0, 0, 0))).2)) ∧ Hid (Keeps (fun j => j = d2) w7 wr)) (fun _ v _ => N - (RowKit.intOf v).toNat)
    case atStart => exact ⟨0, rfl, by omega, rfl, HV7, hide (Keeps.refl _ _)⟩
    case round =>
      obtain ⟨i, rfl, hi, rfl, hV, hk⟩ := hrel
      have HBR : Hid (Below w1.heap.size w1 wr) := hide (HB7.out.trans (hk.out.below HB7.out.size (fun j hj e => by have := HD1.out; omega)))
      by_cases hlt : i < N
      · have hlt' : (i : Int) < (N : Int) := by omega
        obtain ⟨m, hmi⟩ : ∃ m, (mvs p)[i]? = some m := ⟨(mvs p)[i]'(by rw [HN.out]; exact hlt), List.getElem?_eq_getElem _⟩
        have hmm : m ∈ mvs p := List.mem_of_getElem? hmi
        have HRG : Hid (∀ W, Below wr.heap.size wr W → W.rangeAt gl (i * 3) (mvC m)) := hide (fun W hW j u hu => by
          have h1 := HCL7.out wr hk.out (i * 3 + j) u (by rw [flM_at (mvs p) i m hmi j (mvC_lt hu)]; exact hu)
          exact (hW.cell (p := ⟨gl, i * 3 + j, none⟩) (World.block_lt_of_cell? wr _ h1)).trans h1)
        obtain ⟨q, hq⟩ : ∃ q, nxP p m = q := ⟨_, rfl⟩
        have HDM : Hid (∀ W, Below w1.heap.size w1 W → Calls Tryz.prog 9 #[.agg (chP a c p), .agg (mvC m).toArray] W fun r w' => ∃ a' c', r = .returned (.tuple #[.agg (chP a' c' q), .int .i64 0]) ∧ Rd w' a' 64 c' q.Z ∧ Below W.heap.size W w') := hide (fun W hW => by rw [← hq]; exact HDO.out m hmm W hW)
        have HMQ : Hid (MayP q) := hide (by rw [← hq]; exact HMN.out m hmm)
        have HDV := HDP.out m
        have HBQ := HBD.out m hmm
        rw [hq] at HDV HBQ
        have HST : Hid (((mvs p).take (i + 1)).foldl (bStep (dpv p)) (-10000, (0, 0, 0)) = bStep (dpv p) (((mvs p).take i).foldl (bStep (dpv p)) (-10000, (0, 0, 0))) m) := hide (by rw [List.take_add_one, hmi, Option.toList_some, List.foldl_append]; rfl)
        obtain ⟨ac, hac⟩ : ∃ ac, ((mvs p).take i).foldl (bStep (dpv p)) (-10000, (0, 0, 0)) = ac := ⟨_, rfl⟩
        rw [hac] at HST hV
        try rw [hac]
        obtain ⟨bv, hbv⟩ : ∃ bv, ac.1 = bv := ⟨_, rfl⟩
        try rw [hbv]
        obtain ⟨nv, hnv⟩ : ∃ nv, (bG (-1001) 0 0 q).1 = nv := ⟨_, rfl⟩
        obtain ⟨nm, hnm⟩ : ∃ nm, (bG (-1001) 0 0 q).2 = nm := ⟨_, rfl⟩
        rw [hnv] at HDV HBQ
        have HNV := hide (And.intro hnv hnm)
        have HBV := hide hbv
        obtain ⟨nb1, nb2⟩ := HBQ
        clear hac hbv hnv hnm hmi hq
        go_upto_region 14 with fail
        have HBX : Hid (∀ W, Below wr.heap.size wr W → Below w1.heap.size w1 W) := hide (fun W hW => HBR.out.trans (hW.mono HBR.out.size))
        refine wp_region_held (S := fun W5 => Below wr.heap.size wr W5) (by kernel_rfl) ?_
        change wpAnyH _ _ _ _ _ _ _ _ (World.drew _)
        have SW : Below wr.heap.size wr wr.drew := (Below.refl _ wr).drew
        generalize wr.drew = wd at SW ⊢
        refine wpAnyH_take (i := 0) (v := .agg (chP a c p)) rfl (by kernel_rfl) (by kernel_rfl) (by kernel_rfl) (fun _ _ _ h => h) (yieldsIf_load_mid (by rfl) 24 _ rfl g 0 (by rfl) [.slice a 64 c, .int .i64 (p.t : Nat), .int .i64 (p.k : Nat), .int .i64 p.e, .int .i64 (p.h : Nat), .int .i64 (p.f : Nat)] _ (fun W hW => (show Vb W g 24 [.slice a 64 c, .int .i64 (p.t : Nat), .int .i64 (p.k : Nat), .int .i64 p.e, .int .i64 (p.h : Nat), .int .i64 (p.f : Nat)] from HCH.out W (HBX.out W hW)).range) Tryz.underlying24 rfl size24) SW ?_
        go_simp
        refine wpAnyH_take (i := 1) (v := .slice (some ⟨gl, 0, none⟩) N cp) rfl (by kernel_rfl) (by kernel_rfl) (by kernel_rfl) (fun _ _ _ h => h) (Or.inl ⟨by rfl, ?_⟩) SW ?_
        · intro W5 hW5
          go_simp <;> first | done | rfl | (rw [IntKind.wrap_i64]; omega) | omega
        go_simp
        refine wpAnyH_take (i := 2) (v := .int .i64 (i : Nat)) rfl (by kernel_rfl) (by kernel_rfl) (by kernel_rfl) (fun _ _ _ h => h) (Or.inl ⟨by rfl, ?_⟩) SW ?_
        · intro W5 hW5
          go_simp <;> first | done | rfl | (rw [IntKind.wrap_i64]; omega) | omega
        go_simp
        refine wpAnyH_take (i := 3) (v := .pointer (some ⟨gl, i * 3, none⟩)) rfl (by kernel_rfl) (by kernel_rfl) (by kernel_rfl) (fun _ _ _ h => h) (Or.inl ⟨by rfl, ?_⟩) SW ?_
        · intro W5 hW5
          go_simp <;> first | done | rfl | (rw [IntKind.wrap_i64]; omega) | omega
        go_simp
        refine wpAnyH_take (i := 4) (v := .agg (mvC m).toArray) rfl (by kernel_rfl) (by kernel_rfl) (by kernel_rfl) (fun _ _ _ h => h) (yieldsIf_load_mid (by rfl) 32 _ rfl gl (i * 3) (by rfl) (mvC m) _ (fun W hW => HRG.out W hW) Tryz.underlying32 rfl size26) SW ?_
        go_simp
        refine wpAnyH_ready (rs := [5, 9]) (by kernel_rfl) (by simp) ?_
        refine AllReadyH.cons rfl (fun K1 hK1 => ?_) (AllReadyH.cons rfl (fun K1 hK1 => ?_) AllReadyH.nil)
        · go_simp
          refine (HDM.out _ (HBX.out _ SW)).mono ?_
          rintro r w8 ⟨a8, c8, rfl, hz8, hb⟩
          have SWb := SW.trans (hb.mono SW.size)
          have HZ8 := hide hz8
          refine hK1.out _ _ SWb (fun SW => ?_)
          clear hK1 K1 SWb hb hz8
          go_simp
          refine wpAnyH_take (i := 6) (v := .tuple #[.agg (chP a8 c8 q), .int .i64 0]) rfl (by kernel_rfl) (by kernel_rfl) (by kernel_rfl) (fun _ _ _ h => h) (Or.inl ⟨by rfl, ?_⟩) SW ?_
          · intro W5 hW5
            go_simp <;> first | done | rfl | (rw [IntKind.wrap_i64]; omega) | omega
          go_simp
          refine wpAnyH_take (i := 7) (v := .agg (chP a8 c8 q)) rfl (by kernel_rfl) (by kernel_rfl) (by kernel_rfl) (fun _ _ _ h => h) (Or.inl ⟨by rfl, ?_⟩) SW ?_
          · intro W5 hW5
            go_simp <;> first | done | rfl | (rw [IntKind.wrap_i64]; omega) | omega
          go_simp
          refine wpAnyH_take (i := 8) (v := .int .i64 0) rfl (by kernel_rfl) (by kernel_rfl) (by kernel_rfl) (fun _ _ _ h => h) (Or.inl ⟨by rfl, ?_⟩) SW ?_
          · intro W5 hW5
            go_simp <;> first | done | rfl | (rw [IntKind.wrap_i64]; omega) | omega
          go_simp
          refine wpAnyH_ready (rs := [9]) (by kernel_rfl) (by simp) ?_
          refine AllReadyH.cons rfl (fun K1 hK1 => ?_) AllReadyH.nil
          go_simp
          obtain ⟨dx, hdx⟩ : ∃ dx, (World.heap w8).size = dx := ⟨_, rfl⟩
          have CX : Ch (World.alloc w8 (.cells (chA none 0 0 0 0 0 0 0) 24)) dx none 0 0 0 0 0 0 0 := by rw [← hdx]; exact Ch.new _ none 0 0 0 0 0 0 0
          have hdl : wr.heap.size ≤ dx := by rw [← hdx]; exact SW.size
          have SWa : Below wr.heap.size wr (World.alloc w8 (.cells (chA none 0 0 0 0 0 0 0) 24)) := SW.alloc SW.size _
          have BXX : Below (World.heap w8).size w8 (World.alloc w8 (.cells (chA none 0 0 0 0 0 0 0) 24)) := (Below.refl _ _).alloc (Nat.le_refl _) _
          try rw [hdx]
          refine hK1.out _ _ SWa (fun SW => ?_)
          have HZA := hide (HZ8.out.mono BXX)
          have HNE : Hid (∀ b' off, a8 = some ⟨b', off, none⟩ → b' ≠ dx) := hide (fun b' off hb' e => by
            have h1 := rd_lt HZ8.out hb'
            omega)
          clear hK1 K1 SWa BXX
          generalize World.alloc w8 _ = wa at *
          clear hdx
          go_simp
          refine wpAnyH_ready (rs := [10]) (by kernel_rfl) (by simp) ?_
          refine AllReadyH.cons rfl (fun K1 hK1 => ?_) AllReadyH.nil
          refine wp_store_ch0 (.tmp 11) (.tmp 60) (by rfl) dx (by rfl) (by rfl) CX ?_
          intro we CE KE
          have SWe := SW.trans (KE.below SW.size (fun j hj e => by omega))
          have HZE := hide (HZA.out.keepsN KE (fun _ b' off hb' e => HNE.out b' off hb' e))
          refine hK1.out _ _ SWe (fun SW => ?_)
          clear hK1 K1 SWe KE CX
          go_simp
          refine wpAnyH_take (i := 11) (v := .int .i64 0) rfl (by kernel_rfl) (by kernel_rfl) (by kernel_rfl) (fun _ _ _ h => h) (Or.inl ⟨by rfl, ?_⟩) SW ?_
          · intro W5 hW5
            go_simp <;> first | done | rfl | (rw [IntKind.wrap_i64]; omega) | omega
          go_simp
          refine wpAnyH_done (by kernel_rfl) ?_ _
          have HSW := hide SW
          have HCE := hide CE
          clear SW CE
          have HEB : Hid (Below w1.heap.size w1 we) := hide (HBX.out we HSW.out)
          have HBQ := hide (Best_yes a8 c8 q HMQ.out 0 (by omega) (may_e HMQ.out).1 (may_e HMQ.out).2 we HZE.out (HTW.out we HEB.out) (HWW.out we HEB.out))
          rw [HNV.out.1, HNV.out.2] at HBQ
          go_wp2_with (refine wpList_load_ch rfl (.tmp 11) rfl dx rfl HCE.out ?_)
          refine HBQ.out.mono ?_
          rintro r w9 ⟨rfl, hb9⟩
          have HB9 : Hid (Below wr.heap.size wr w9) := hide (HSW.out.trans (hb9.mono HSW.out.size))
          clear hb9 HBQ
          obtain ⟨d3, hd3⟩ : ∃ d3, w9.heap.size = d3 := ⟨_, rfl⟩
          have VE : Vb (w9.alloc (.cells #[.int .i64 0, .int .i64 0, .int .i64 0] 32)) d3 32 [.int .i64 0, .int .i64 0, .int .i64 0] := by rw [← hd3]; exact Vb.new w9 32 _
          have b9 : Below w9.heap.size w9 (w9.alloc (.cells #[.int .i64 0, .int .i64 0, .int .i64 0] 32)) := (Below.refl _ _).alloc (Nat.le_refl _) _
          go_upto_region 16 with (refine wpList_store_vb rfl 32 (.tmp 14) (.tmp 66) rfl d3 (mvC nm) _ (by simp [Act.eval]) rfl VE rfl row26 (mvC_one _) ?_; intro wb Vb_ Kb)
          have HBB : Hid (Below wr.heap.size wr wb) := hide (HB9.out.trans ((b9.trans (Kb.below b9.size (fun j hj q => by omega))).mono HB9.out.size))
          clear VE b9 Vb_ Kb hd3
          have hV9 := hV.out.below HBB.out hV.out.lt
          have hrg := HRG.out wb HBB.out
          have HKB : Hid (Keeps (fun j => j = d2) w7 wb) := hide (hk.out.trans (Keeps.of_all HBB.out))
          have HVB := hide hV9
          by_cases h1000 : nv = -1000
          · subst h1000
            rw [if_pos rfl] at HDV
            by_cases hgt : bv < 999
            · have HSR : Hid (((mvs p).take (i + 1)).foldl (bStep (dpv p)) (-10000, (0, 0, 0)) = (999, m)) := hide (by rw [HST.out]; unfold bStep; rw [HDV, HBV.out, if_pos (by omega)]; rfl)
              go_wp2_with (first | (refine wpList_load_mid rfl 32 (.tmp 84) rfl gl (i * 3) rfl (mvC m) _ hrg Tryz.underlying32 rfl size26 ?_) | (refine wpList_store_vb rfl 32 (.tmp 9) (.tmp 85) rfl d2 (mvC m) _ rfl rfl hV9 rfl row26 (mvC_one m) ?_; intro wc Vc Kc))
              exact ⟨⟨i + 1, by go_num, by omega, by rw [HSR.out], hide (by rw [HSR.out]; exact Vc), hide (HKB.out.trans Kc)⟩, by simp [RowKit.intOf]; omega⟩
            · have HSR : Hid (((mvs p).take (i + 1)).foldl (bStep (dpv p)) (-10000, (0, 0, 0)) = ac) := hide (by rw [HST.out]; unfold bStep; rw [HDV, HBV.out, if_neg (by omega)])
              go_wp2_with fail
              exact ⟨⟨i + 1, by go_num, by omega, by rw [HSR.out, HBV.out], hide (by rw [HSR.out]; exact HVB.out), HKB⟩, by simp [RowKit.intOf]; omega⟩
          · rw [if_neg h1000] at HDV
            by_cases hgt : bv < -nv
            · have HSR : Hid (((mvs p).take (i + 1)).foldl (bStep (dpv p)) (-10000, (0, 0, 0)) = (-nv, m)) := hide (by rw [HST.out]; unfold bStep; rw [HDV, HBV.out, if_pos (by omega)])
              go_wp2_with (first | (refine wpList_load_mid rfl 32 (.tmp 84) rfl gl (i * 3) rfl (mvC m) _ hrg Tryz.underlying32 rfl size26 ?_) | (refine wpList_store_vb rfl 32 (.tmp 9) (.tmp 85) rfl d2 (mvC m) _ rfl rfl hV9 rfl row26 (mvC_one m) ?_; intro wc Vc Kc))
              exact ⟨⟨i + 1, by go_num, by omega, by rw [HSR.out], hide (by rw [HSR.out]; exact Vc), hide (HKB.out.trans Kc)⟩, by simp [RowKit.intOf]; omega⟩
            · have HSR : Hid (((mvs p).take (i + 1)).foldl (bStep (dpv p)) (-10000, (0, 0, 0)) = ac) := hide (by rw [HST.out]; unfold bStep; rw [HDV, HBV.out, if_neg (by omega)])
              go_wp2_with fail
              exact ⟨⟨i + 1, by go_num, by omega, by rw [HSR.out, HBV.out], hide (by rw [HSR.out]; exact HVB.out), HKB⟩, by simp [RowKit.intOf]; omega⟩
        · go_simp
          obtain ⟨dx, hdx⟩ : ∃ dx, (World.heap wd).size = dx := ⟨_, rfl⟩
          have CX : Ch (World.alloc wd (.cells (chA none 0 0 0 0 0 0 0) 24)) dx none 0 0 0 0 0 0 0 := by rw [← hdx]; exact Ch.new _ none 0 0 0 0 0 0 0
          have hdl : wr.heap.size ≤ dx := by rw [← hdx]; exact SW.size
          have SWa : Below wr.heap.size wr (World.alloc wd (.cells (chA none 0 0 0 0 0 0 0) 24)) := SW.alloc SW.size _
          have BXX : Below (World.heap wd).size wd (World.alloc wd (.cells (chA none 0 0 0 0 0 0 0) 24)) := (Below.refl _ _).alloc (Nat.le_refl _) _
          try rw [hdx]
          refine hK1.out _ _ SWa (fun SW => ?_)
          clear hK1 K1 SWa BXX
          generalize World.alloc wd _ = wa at *
          clear hdx
          go_simp
          refine wpAnyH_ready (rs := [5]) (by kernel_rfl) (by simp) ?_
          refine AllReadyH.cons rfl (fun K1 hK1 => ?_) AllReadyH.nil
          go_simp
          refine (HDM.out _ (HBX.out _ SW)).mono ?_
          rintro r w8 ⟨a8, c8, rfl, hz8, hb⟩
          have SWb := SW.trans (hb.mono SW.size)
          have HZ8 := hide hz8
          refine hK1.out _ _ SWb (fun SW => ?_)
          have CX := CX.below hb CX.lt
          have HNE : Hid (∀ b' off, a8 = some ⟨b', off, none⟩ → b' ≠ dx) := hide (fun b' off hb' e => by
            subst e
            exact rd_ch HZ8.out hb' CX)
          have HZA := HZ8
          clear hK1 K1 SWb hb hz8
          go_simp
          refine wpAnyH_take (i := 6) (v := .tuple #[.agg (chP a8 c8 q), .int .i64 0]) rfl (by kernel_rfl) (by kernel_rfl) (by kernel_rfl) (fun _ _ _ h => h) (Or.inl ⟨by rfl, ?_⟩) SW ?_
          · intro W5 hW5
            go_simp <;> first | done | rfl | (rw [IntKind.wrap_i64]; omega) | omega
          go_simp
          refine wpAnyH_take (i := 7) (v := .agg (chP a8 c8 q)) rfl (by kernel_rfl) (by kernel_rfl) (by kernel_rfl) (fun _ _ _ h => h) (Or.inl ⟨by rfl, ?_⟩) SW ?_
          · intro W5 hW5
            go_simp <;> first | done | rfl | (rw [IntKind.wrap_i64]; omega) | omega
          go_simp
          refine wpAnyH_take (i := 8) (v := .int .i64 0) rfl (by kernel_rfl) (by kernel_rfl) (by kernel_rfl) (fun _ _ _ h => h) (Or.inl ⟨by rfl, ?_⟩) SW ?_
          · intro W5 hW5
            go_simp <;> first | done | rfl | (rw [IntKind.wrap_i64]; omega) | omega
          go_simp
          refine wpAnyH_ready (rs := [10]) (by kernel_rfl) (by simp) ?_
          refine AllReadyH.cons rfl (fun K1 hK1 => ?_) AllReadyH.nil
          refine wp_store_ch0 (.tmp 11) (.tmp 60) (by rfl) dx (by rfl) (by rfl) CX ?_
          intro we CE KE
          have SWe := SW.trans (KE.below SW.size (fun j hj e => by omega))
          have HZE := hide (HZA.out.keepsN KE (fun _ b' off hb' e => HNE.out b' off hb' e))
          refine hK1.out _ _ SWe (fun SW => ?_)
          clear hK1 K1 SWe KE CX
          go_simp
          refine wpAnyH_take (i := 11) (v := .int .i64 0) rfl (by kernel_rfl) (by kernel_rfl) (by kernel_rfl) (fun _ _ _ h => h) (Or.inl ⟨by rfl, ?_⟩) SW ?_
          · intro W5 hW5
            go_simp <;> first | done | rfl | (rw [IntKind.wrap_i64]; omega) | omega
          go_simp
          refine wpAnyH_done (by kernel_rfl) ?_ _
          have HSW := hide SW
          have HCE := hide CE
          clear SW CE
          have HEB : Hid (Below w1.heap.size w1 we) := hide (HBX.out we HSW.out)
          have HBQ := hide (Best_yes a8 c8 q HMQ.out 0 (by omega) (may_e HMQ.out).1 (may_e HMQ.out).2 we HZE.out (HTW.out we HEB.out) (HWW.out we HEB.out))
          rw [HNV.out.1, HNV.out.2] at HBQ
          go_wp2_with (refine wpList_load_ch rfl (.tmp 11) rfl dx rfl HCE.out ?_)
          refine HBQ.out.mono ?_
          rintro r w9 ⟨rfl, hb9⟩
          have HB9 : Hid (Below wr.heap.size wr w9) := hide (HSW.out.trans (hb9.mono HSW.out.size))
          clear hb9 HBQ
          obtain ⟨d3, hd3⟩ : ∃ d3, w9.heap.size = d3 := ⟨_, rfl⟩
          have VE : Vb (w9.alloc (.cells #[.int .i64 0, .int .i64 0, .int .i64 0] 32)) d3 32 [.int .i64 0, .int .i64 0, .int .i64 0] := by rw [← hd3]; exact Vb.new w9 32 _
          have b9 : Below w9.heap.size w9 (w9.alloc (.cells #[.int .i64 0, .int .i64 0, .int .i64 0] 32)) := (Below.refl _ _).alloc (Nat.le_refl _) _
          go_upto_region 16 with (refine wpList_store_vb rfl 32 (.tmp 14) (.tmp 66) rfl d3 (mvC nm) _ (by simp [Act.eval]) rfl VE rfl row26 (mvC_one _) ?_; intro wb Vb_ Kb)
          have HBB : Hid (Below wr.heap.size wr wb) := hide (HB9.out.trans ((b9.trans (Kb.below b9.size (fun j hj q => by omega))).mono HB9.out.size))
          clear VE b9 Vb_ Kb hd3
          have hV9 := hV.out.below HBB.out hV.out.lt
          have hrg := HRG.out wb HBB.out
          have HKB : Hid (Keeps (fun j => j = d2) w7 wb) := hide (hk.out.trans (Keeps.of_all HBB.out))
          have HVB := hide hV9
          by_cases h1000 : nv = -1000
          · subst h1000
            rw [if_pos rfl] at HDV
            by_cases hgt : bv < 999
            · have HSR : Hid (((mvs p).take (i + 1)).foldl (bStep (dpv p)) (-10000, (0, 0, 0)) = (999, m)) := hide (by rw [HST.out]; unfold bStep; rw [HDV, HBV.out, if_pos (by omega)]; rfl)
              go_wp2_with (first | (refine wpList_load_mid rfl 32 (.tmp 84) rfl gl (i * 3) rfl (mvC m) _ hrg Tryz.underlying32 rfl size26 ?_) | (refine wpList_store_vb rfl 32 (.tmp 9) (.tmp 85) rfl d2 (mvC m) _ rfl rfl hV9 rfl row26 (mvC_one m) ?_; intro wc Vc Kc))
              exact ⟨⟨i + 1, by go_num, by omega, by rw [HSR.out], hide (by rw [HSR.out]; exact Vc), hide (HKB.out.trans Kc)⟩, by simp [RowKit.intOf]; omega⟩
            · have HSR : Hid (((mvs p).take (i + 1)).foldl (bStep (dpv p)) (-10000, (0, 0, 0)) = ac) := hide (by rw [HST.out]; unfold bStep; rw [HDV, HBV.out, if_neg (by omega)])
              go_wp2_with fail
              exact ⟨⟨i + 1, by go_num, by omega, by rw [HSR.out, HBV.out], hide (by rw [HSR.out]; exact HVB.out), HKB⟩, by simp [RowKit.intOf]; omega⟩
          · rw [if_neg h1000] at HDV
            by_cases hgt : bv < -nv
            · have HSR : Hid (((mvs p).take (i + 1)).foldl (bStep (dpv p)) (-10000, (0, 0, 0)) = (-nv, m)) := hide (by rw [HST.out]; unfold bStep; rw [HDV, HBV.out, if_pos (by omega)])
              go_wp2_with (first | (refine wpList_load_mid rfl 32 (.tmp 84) rfl gl (i * 3) rfl (mvC m) _ hrg Tryz.underlying32 rfl size26 ?_) | (refine wpList_store_vb rfl 32 (.tmp 9) (.tmp 85) rfl d2 (mvC m) _ rfl rfl hV9 rfl row26 (mvC_one m) ?_; intro wc Vc Kc))
              exact ⟨⟨i + 1, by go_num, by omega, by rw [HSR.out], hide (by rw [HSR.out]; exact Vc), hide (HKB.out.trans Kc)⟩, by simp [RowKit.intOf]; omega⟩
            · have HSR : Hid (((mvs p).take (i + 1)).foldl (bStep (dpv p)) (-10000, (0, 0, 0)) = ac) := hide (by rw [HST.out]; unfold bStep; rw [HDV, HBV.out, if_neg (by omega)])
              go_wp2_with fail
              exact ⟨⟨i + 1, by go_num, by omega, by rw [HSR.out, HBV.out], hide (by rw [HSR.out]; exact HVB.out), HKB⟩, by simp [RowKit.intOf]; omega⟩
      · obtain rfl : i = N := by omega
        have e : (mvs p).take i = mvs p := by rw [← HN.out, List.take_length]
        rw [e, HFO.out] at hV
        rw [e, HFO.out]
        have hVd := HV67.out.keeps hk.out (fun e => by have := HDD.out; omega)
        have hVw := hV.out
        clear e
        have cd0 : wr.cell? ⟨d, 0, none⟩ = some (.int .i64 (r0.2.1 : Nat)) := hVd.cell (i := 0) rfl
        have cd1 : wr.cell? ⟨d, 1, none⟩ = some (.int .i64 (r0.2.2.1 : Nat)) := hVd.cell (i := 1) rfl
        have cd2 : wr.cell? ⟨d, 2, none⟩ = some (.int .i64 (r0.2.2.2 : Nat)) := hVd.cell (i := 2) rfl
        have cw0 : wr.cell? ⟨d2, 0, none⟩ = some (.int .i64 (r0.2.1 : Nat)) := hVw.cell (i := 0) rfl
        have cw1 : wr.cell? ⟨d2, 1, none⟩ = some (.int .i64 (r0.2.2.1 : Nat)) := hVw.cell (i := 1) rfl
        have cw2 : wr.cell? ⟨d2, 2, none⟩ = some (.int .i64 (r0.2.2.2 : Nat)) := hVw.cell (i := 2) rfl
        clear hVd hVw
        go_wp2_with fail
        go_ret
        exact ⟨rfl, HB0.out.trans (HBR.out.mono HB0.out.size)⟩

end Go.Proofs.YtdmlamnonbmboaaGreatDoor
