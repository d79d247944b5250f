/-
  The search with what was found. No conditions beyond those that each theorem bears.
-/
import Derived.Test.YtmdnoiebodaikaaLead
import Derived.Test.YtmdnoiebodaikaaSeen
namespace Go.Proofs.Ytmdnoiebodaikaa
open Go.RowKit

theorem size56 : (Try.prog.info? 56).map (·.size) = some 2 := by kernel_rfl

theorem wpList_load_oc {ops : Array Oper} {rest : List Oper} {op : Oper} {a : Act} {w : World} {Q : Exit → Act → World → Prop} (hw : Region.wanted op (yielded ops a.tmps) = true) (x : Operand) (ho : op.op = .load 56 x)
    (b : Nat) (hx : a.eval x = .pointer (some ⟨b, 0, none⟩)) (y z : Int) (hc : Blk w b 56 [y, z])
    (h : wpList Try.prog ops Q rest (a.put op.dst (ov y z)) w) : wpList Try.prog ops Q (op :: rest) a w :=
  wpList_wanted hw fun _ hK => wp_load_row 56 x ho b hx 56 _ (0, 0) _ hc Try.underlying56 rfl size56 (hK _ _ h)

theorem wpList_store_oc {ops : Array Oper} {rest : List Oper} {o : Oper} {a : Act} {w : World} {Q : Exit → Act → World → Prop} (hgd : o.guard = none) (x y : Operand) (ho : o.op = .store 56 x y)
    (b : Nat) (u v u' v' : Int) (hx : a.eval x = .pointer (some ⟨b, 0, none⟩)) (hy : a.eval y = ov u v) (hb : Blk w b 56 [u', v'])
    (h : ∀ w', Blk w' b 56 [u, v] → Keeps (fun k => k = b) w w' → wpList Try.prog ops Q rest (a.put o.dst undef) w') : wpList Try.prog ops Q (o :: rest) a w := by
  refine wpList_plain hgd fun _ hK => ?_
  have hb' : w.heap[b]? = _ := hb
  refine wp_store_row 56 x y ho b (ivs [u, v]).toArray hx hy 56 _ hb' size56 rfl (by simp [ivs, Value.oneCell']) ?_
  refine hK _ _ (h _ ?_ ?_)
  · simp [Blk, World.setRow, Array.getElem?_modify, hb']
  · exact ⟨rfl, rfl, rfl, by simp [World.setRow], fun k _ hk => by simp [World.setRow, Array.getElem?_modify, show ¬ b = k from fun e => hk e.symm]⟩

theorem results_oc {fn : Func} {u : Tmp} (h : fn.results = #[.cell u 56]) (tmps : Array Value) (w : World) (b : Nat) (hb : tmps.getD u undef = .pointer (some ⟨b, 0, none⟩)) (y z : Int) (hr : Blk w b 56 [y, z]) :
    (results fn tmps).run Try.prog w = .ok (ov y z) w :=
  results_cell_row h tmps w b 56 _ (0, 0) _ hb hr Try.underlying56 rfl size56

theorem field56 (x y : Int) (W : World) : (Instr.field 56 (ov x y) 0).run Try.prog W = .ok (.int .i64 x) W := by
  simp [Instr.field, run_underlying Try.underlying56, part, Try.isAgg3, asAgg, Result.andThen]

theorem bst_skip {V : Nat → List Int → Int × Int} {p t k : Nat} {S : List Int} (h : S.getD (pl p t k) 0 = 0) : bst V p t S (k + 1) = bst V p t S k := by
  rw [bst, if_pos h]
theorem bst_take {V : Nat → List Int → Int × Int} {p t k : Nat} {S : List Int} (h : S.getD (pl p t k) 0 ≠ 0) (h2 : (bst V p t S k).2 = -1 ∨ bet t (V (sowT p t k S) (sowS p t k S)).1 (bst V p t S k).1 = true) : bst V p t S (k + 1) = ((V (sowT p t k S) (sowS p t k S)).1, (k : Int)) := by
  rw [bst, if_neg h, if_pos h2]
theorem bst_keep {V : Nat → List Int → Int × Int} {p t k : Nat} {S : List Int} (h : S.getD (pl p t k) 0 ≠ 0) (h2 : ¬ (bst V p t S k).2 = -1) (h3 : bet t (V (sowT p t k S) (sowS p t k S)).1 (bst V p t S k).1 = false) : bst V p t S (k + 1) = bst V p t S k := by
  rw [bst, if_neg h, if_neg (by rintro (h | h); exact h2 h; rw [h3] at h; cases h)]

attribute [local irreducible] val bst sowS sowT agB overB bet in
set_option maxRecDepth 100000 in
set_option maxHeartbeats 4000000 in
theorem of_any (p : Nat) : ∀ (N t : Nat) (S : List Int), Bd p t S → ms p S < N → ∀ (w : World) (mb : Nat), Mp w mb →
    Calls Try.prog 32 #[.map (some mb), bv (pad S) p t] w fun e w' => e = .returned (ov (val p t S).1 (val p t S).2) ∧ Mp w' mb ∧ Keeps (fun k => k = mb) w w'
  | 0, _, _, _, h, _, _, _ => absurd h (Nat.not_lt_zero _)
  | N + 1, t, S, hB, hN, w, mb, hM => by
    have hp := hB.p6
    have ht := hB.t1
    have HBD := hide hB
    have HP : Hid ((pad S).length = 14) := hide (pad_length S (by have := hB.len; omega))
    have hl : Hid ((bdL (pad S) p t).length = 16) := hide (bdL_length _ p t HP.out)
    have HFP : Hid (Fit p (pad S)) := hide (hB.fit.pad hB.len)
    have HOV : Hid (overB p (pad S) = overB p S) := hide (overB_pad hB.len)
    have HLD : Hid (leadS p (pad S) = leadS p S) := hide (by
      have hlen := hB.len
      unfold leadS
      rw [inP_pad (by omega) hlen, inP_pad (by omega) hlen, pad_getD S p (by omega), pad_getD S (2 * p + 1) (by omega)])
    have HIH : Hid (∀ i, i < p → S.getD (pl p t i) 0 ≠ 0 → ∀ (w : World), Mp w mb → Calls Try.prog 32 #[.map (some mb), bv (pad (sowS p t i S)) p (sowT p t i S)] w fun e w' => e = .returned (ov (val p (sowT p t i S) (sowS p t i S)).1 (val p (sowT p t i S) (sowS p t i S)).2) ∧ Mp w' mb ∧ Keeps (fun k => k = mb) w w') := hide (fun i hi hz w hM => by
      have hlen := hB.len
      have hms := ms_sowS hp ht hi (by omega) hB.fit hz
      exact of_any p N _ _ ⟨hp, sowT_le ht, by rw [sowS_length]; exact hlen, (sowS_fit ht hi (by omega) hB.fit).1⟩ (by omega) w mb hM)
    have HVE : Hid (overB p S = false → val p t S = bst (val p) p t S p) := hide (fun h => val_eq hp ht (by have := hB.len; omega) hB.fit h)
    have HVO : Hid (overB p S = true → val p t S = (leadS p S, -1)) := hide (fun h => val_over h)
    have hmb := hM.lt
    obtain ⟨w0, hw0⟩ : ∃ w0, (w.alloc (Obj.cells (ivs (bdL (pad S) p t)).toArray 46)).alloc (Obj.cells #[.int .i64 0, .int .i64 0] 56) = w0 := ⟨_, rfl⟩
    have K0 : Blk w0 w.heap.size 46 (bdL (pad S) p t) := by rw [← hw0]; exact (Blk.new w 46 _ _ rfl).old _
    have R0 : Blk w0 (w.heap.size + 1) 56 [0, 0] := by
      rw [← hw0]
      have := Blk.new (w.alloc (Obj.cells (ivs (bdL (pad S) p t)).toArray 46)) 56 [0, 0] _ rfl
      rw [World.size_alloc] at this
      exact this
    have B0 : Below w.heap.size w w0 := by rw [← hw0]; exact ((Below.refl _ w).alloc (Nat.le_refl _) _).alloc (by simp) _
    obtain ⟨b, hbe⟩ : ∃ b, w.heap.size = b := ⟨_, rfl⟩
    have HKM : Hid (∀ W, Keeps (fun k => k = mb ∨ b ≤ k) w W → Keeps (fun k => k = mb) w W) := hide (fun W h => h.mono (fun k hk hx => by rcases hx with h | h; exact h; omega))
    have HMP0 := hide (hM.below B0 (by omega))
    rw [hbe] at K0 R0 hmb
    have HK0 := hide K0
    have HR0 := hide R0
    have HX0 : Hid (Keeps (fun k => k = mb ∨ b ≤ k) w w0) := hide ((Keeps.of_below B0).mono (fun k _ h => Or.inr (by omega)))
    obtain ⟨vv, hvv⟩ : ∃ vv, val p t S = vv := ⟨_, rfl⟩
    have HVV := hide hvv
    rw [hvv]
    clear K0 R0 B0 hB hN hM hvv
    go_enter Try.func32, Try.ntmps32
    go_wp2_with (first | refine wpList_load_bd rfl _ rfl b rfl (bdL (pad S) p t) hl.out HK0.out ?_)
    refine (over_any (pad S) HP.out p t hp HFP.out _).mono ?_
    rintro e w1 ⟨rfl, hw⟩
    rw [HOV.out]
    have HK1 := hide (HK0.out.below hw HK0.out.lt)
    have HR1 := hide (HR0.out.below hw HR0.out.lt)
    have HMP1 := hide (HMP0.out.below hw HMP0.out.lt)
    have HX1 := hide (HX0.out.trans (Keeps.of_all hw))
    clear hw HK0 HR0 HMP0 HX0
    cases hov : overB p S with
    | true =>
      have HV : Hid (vv = (leadS p S, -1)) := hide (by rw [← HVV.out]; exact HVO.out hov)
      clear hov HVE HVO HIH HVV
      go_wp2_with (first | refine wpList_load_bd rfl _ rfl b rfl (bdL (pad S) p t) hl.out HK1.out ?_)
      refine (lead_any (pad S) HP.out p t hp HFP.out _).mono ?_
      rintro e w2 ⟨rfl, hw⟩
      rw [HLD.out]
      have HR2 := hide (HR1.out.below hw HR1.out.lt)
      have HMP2 := hide (HMP1.out.below hw HMP1.out.lt)
      have HX2 := hide (HX1.out.trans (Keeps.of_all hw))
      clear hw HK1 HR1 HMP1 HX1
      generalize leadS p S = ld at *
      go_wp2_with (first | (refine wpList_store_oc rfl _ _ rfl (b + 1) ld (-1) 0 0 rfl rfl HR2.out ?_; intro w3 r3 k3))
      refine bodyPost_ret (results_oc rfl _ _ (b + 1) rfl ld (-1) r3) rfl ⟨by rw [HV.out], HMP2.out.keeps k3 (by omega), HKM.out _ (HX2.out.trans (k3.mono (fun k _ h => Or.inr (by omega))))⟩
    | false =>
      have HV : Hid (vv = bst (val p) p t S p) := hide (by rw [← HVV.out]; exact HVE.out hov)
      clear hov HVE HVO HLD HOV
      rcases HMP1.out.look HBD.out with LK | LK
      · rw [HVV.out] at LK
        clear HV HIH
        have FN : Blk (w1.alloc (Obj.cells #[.int .i64 vv.1, .int .i64 vv.2] 56)) w1.heap.size 56 [vv.1, vv.2] := Blk.new w1 56 [vv.1, vv.2] _ rfl
        have HR2 := hide (HR1.out.old (Obj.cells #[.int .i64 vv.1, .int .i64 vv.2] 56))
        have HMP2 := hide (HMP1.out.below ((Below.refl w1.heap.size w1).alloc (Nat.le_refl _) (Obj.cells #[.int .i64 vv.1, .int .i64 vv.2] 56)) HMP1.out.lt)
        have HX2 := hide (HX1.out.alloc (Obj.cells #[.int .i64 vv.1, .int .i64 vv.2] 56))
        have HFN := hide FN
        clear FN HR1 HMP1 HX1
        go_wp2_with (first | refine wpList_load_bd rfl _ rfl b rfl (bdL (pad S) p t) hl.out HK1.out ?_ | refine wpList_load_oc rfl _ rfl w1.heap.size rfl vv.1 vv.2 HFN.out ?_ | (refine wpList_store_oc rfl _ _ rfl (b + 1) vv.1 vv.2 0 0 rfl rfl HR2.out ?_; intro w3 r3 k3))
        refine bodyPost_ret (results_oc rfl _ _ (b + 1) rfl vv.1 vv.2 r3) rfl ⟨rfl, HMP2.out.keeps k3 (by omega), HKM.out _ (HX2.out.trans (k3.mono (fun k _ h => Or.inr (by omega))))⟩
      · have hb1 := HR1.out.lt
        obtain ⟨w2, hw2⟩ : ∃ w2, (w1.alloc (Obj.cells #[.int .i64 0, .int .i64 0] 56)).alloc (Obj.cells #[.int .i64 0, .int .i64 (-1)] 56) = w2 := ⟨_, rfl⟩
        have AB : Below w1.heap.size w1 w2 := by rw [← hw2]; exact ((Below.refl _ w1).alloc (Nat.le_refl _) _).alloc (by simp) _
        have BS : Blk w2 (w1.heap.size + 1) 56 [0, -1] := by
          rw [← hw2]
          have := Blk.new (w1.alloc (Obj.cells #[.int .i64 0, .int .i64 0] 56)) 56 [0, -1] _ rfl
          rw [World.size_alloc] at this
          exact this
        have HK2 := hide (HK1.out.below AB HK1.out.lt)
        have HR2 := hide (HR1.out.below AB HR1.out.lt)
        have HMP2 := hide (HMP1.out.below AB HMP1.out.lt)
        have HX2 := hide (HX1.out.trans (Keeps.of_all AB))
        have HBS : Hid (Blk w2 (w1.heap.size + 1) 56 [(bst (val p) p t S 0).1, (bst (val p) p t S 0).2]) := hide (by
          have : bst (val p) p t S 0 = (0, -1) := by rw [bst]
          rw [this]
          exact BS)
        have HW2 := hide hw2
        clear AB BS HR1 HMP1 HX1 hw2
        have c14 := HK2.out.pits HP.out
        go_upto_region 7 with (first | refine wpList_load_bd rfl _ rfl b rfl (bdL (pad S) p t) hl.out HK1.out ?_)
        rw [HW2.out]
        obtain ⟨s, hs⟩ : ∃ s, w1.heap.size + 1 = s := ⟨_, rfl⟩
        rw [hs] at HBS ⊢
        have hsb : b + 1 < s := by omega
        clear hs HW2 LK HK1
        go_wp2_with fail
        go_loopw [28] (fun v wr => ∃ k : Nat, v = .int .i64 k ∧ k ≤ p ∧ Hid (Blk wr s 56 [(bst (val p) p t S k).1, (bst (val p) p t S k).2]) ∧ Hid (Blk wr b 46 (bdL (pad S) p t)) ∧ Hid (Blk wr (b + 1) 56 [0, 0]) ∧ Hid (Mp wr mb) ∧ Hid (Keeps (fun k => k = mb ∨ b ≤ k) w wr)) (fun v _ => p - (intOf v).toNat)
        case atStart => exact ⟨0, rfl, by omega, HBS, HK2, HR2, HMP2, HX2⟩
        case round =>
          obtain ⟨k, rfl, hk, hS3, hK3, hR3, hM3, hX3⟩ := hrel
          clear HBS HK2 HR2 HMP2 HX2 c14
          by_cases hlt : k < p
          · have hlt' : (k : Int) < (p : Int) := by omega
            go_wp2_with (first | refine wpList_load_bd rfl _ rfl b rfl (bdL (pad S) p t) hl.out hK3.out ?_)
            refine (empty_any (pad S) HP.out p t k hp ht hlt _).mono ?_
            rintro e w4 ⟨rfl, hw⟩
            rw [show (pad S).getD (pl p t k) 0 = S.getD (pl p t k) 0 from pad_getD S _ (by rw [HBD.out.len]; exact pl_lt ht (by omega))]
            have HS4 := hide (hS3.out.below hw hS3.out.lt)
            have HK4 := hide (hK3.out.below hw hK3.out.lt)
            have HR4 := hide (hR3.out.below hw hR3.out.lt)
            have HM4 := hide (hM3.out.below hw hM3.out.lt)
            have HX4 := hide (hX3.out.trans (Keeps.of_all hw))
            clear hw hS3 hK3 hR3 hM3 hX3
            by_cases hz : S.getD (pl p t k) 0 = 0
            · have hzb : (S.getD (pl p t k) 0 == 0) = true := by simpa using hz
              have HS5 : Hid (Blk w4 s 56 [(bst (val p) p t S (k + 1)).1, (bst (val p) p t S (k + 1)).2]) := hide (by rw [bst_skip hz]; exact HS4.out)
              rw [hzb]
              clear hz hzb
              go_wp2_with fail
              exact ⟨⟨k + 1, by go_num, by omega, HS5, HK4, HR4, HM4, HX4⟩, by simp [intOf]; omega⟩
            · have hzb : (S.getD (pl p t k) 0 == 0) = false := by simpa using hz
              rw [hzb]
              have HCALL := hide (HIH.out k hlt hz)
              have HTK := hide (bst_take (V := val p) (k := k) hz)
              have HKP := hide (bst_keep (V := val p) (k := k) hz)
              have HSL : Hid ((sowS p t k S).length = 2 * (p + 1)) := hide (by rw [sowS_length]; exact HBD.out.len)
              clear hz hzb
              go_wp2_with (first | refine wpList_load_bd rfl _ rfl b rfl (bdL (pad S) p t) hl.out HK4.out ?_)
              refine (sow_any (pad S) HP.out p t k hp ht hlt HFP.out _).mono ?_
              rintro e w5 ⟨rfl, hw⟩
              rw [sowS_pad hp ht hlt HBD.out.len, agB_pad ht hlt HBD.out.len, sowT_pad ht hlt HBD.out.len]
              have HS5 := HS4.out.below hw HS4.out.lt
              have HK5 := HK4.out.below hw HK4.out.lt
              have HR5 := HR4.out.below hw HR4.out.lt
              have HM5 := HM4.out.below hw HM4.out.lt
              have HX5 := HX4.out.trans (Keeps.of_all hw)
              clear hw HS4 HK4 HR4 HM4 HX4
              generalize sowS p t k S = F at *
              generalize sowT p t k S = ut at *
              generalize agB p t k S = ag at *
              have HPF : Hid ((pad F).length = 14) := hide (pad_length F (by have := HSL.out; omega))
              have hlf : Hid ((bdL (pad F) p ut).length = 16) := hide (bdL_length _ p ut HPF.out)
              have NZ : Blk (w5.alloc (Obj.cells #[.int .i64 0, .int .i64 0, .int .i64 0, .int .i64 0, .int .i64 0, .int .i64 0, .int .i64 0, .int .i64 0, .int .i64 0, .int .i64 0, .int .i64 0, .int .i64 0, .int .i64 0, .int .i64 0, .int .i64 0, .int .i64 0] 46)) w5.heap.size 46 z16 := Blk.new w5 46 z16 _ rfl
              have AB := (Below.refl w5.heap.size w5).alloc (Nat.le_refl _) (Obj.cells #[.int .i64 0, .int .i64 0, .int .i64 0, .int .i64 0, .int .i64 0, .int .i64 0, .int .i64 0, .int .i64 0, .int .i64 0, .int .i64 0, .int .i64 0, .int .i64 0, .int .i64 0, .int .i64 0, .int .i64 0, .int .i64 0] 46)
              have hs5 := HS5.lt
              have HS6 := hide (HS5.below AB HS5.lt)
              have HK6 := hide (HK5.below AB HK5.lt)
              have HR6 := hide (HR5.below AB HR5.lt)
              have HM6 := hide (HM5.below AB HM5.lt)
              have HX6 := hide (HX5.trans (Keeps.of_all AB))
              have HNZ := hide NZ
              have hz16 : Hid (z16.length = 16) := hide rfl
              clear NZ AB HS5 HK5 HR5 HM5 HX5
              go_upto_region 12 with (first | (refine wpList_store_bd rfl _ _ rfl w5.heap.size (bdL (pad F) p ut) z16 hlf.out hz16.out rfl rfl HNZ.out ?_; intro w7 hb7 hk7))
              have HS7 := hide (HS6.out.keeps hk7 (by omega))
              have HK7 := hide (HK6.out.keeps hk7 (by omega))
              have HR7 := hide (HR6.out.keeps hk7 (by omega))
              have HM7 := hide (HM6.out.keeps hk7 (by omega))
              have HX7 := hide (HX6.out.trans (hk7.mono (fun k _ h => Or.inr (by omega))))
              have HF7 := hide hb7
              clear hb7 hk7 HS6 HK6 HR6 HM6 HX6 HNZ
              obtain ⟨x, hx⟩ : ∃ x, w5.heap.size = x := ⟨_, rfl⟩
              rw [hx] at HF7 hs5 ⊢
              clear hx
              go_wp2_with (first | refine wpList_load_bd rfl _ rfl x rfl (bdL (pad F) p ut) hlf.out HF7.out ?_)
              refine (HCALL.out _ HM7.out).mono ?_
              rintro e w8 ⟨rfl, hm8, hk8⟩
              have HS8 := hide (HS7.out.keeps hk8 (by omega))
              have HK8 := hide (HK7.out.keeps hk8 (by omega))
              have HR8 := hide (HR7.out.keeps hk8 (by omega))
              have HM8 := hide hm8
              have HX8 := hide (HX7.out.trans (hk8.mono (fun k _ h => Or.inl h)))
              have FD := fun y => field56 (val p ut F).1 y w8
              clear hm8 hk8 HS7 HK7 HR7 HM7 HX7 HF7 HCALL
              obtain ⟨ld, hld⟩ : ∃ ld, (val p ut F).1 = ld := ⟨_, rfl⟩
              rw [hld] at HTK HKP FD ⊢
              clear hld
              generalize bst (val p) p t S k = B0 at *
              obtain ⟨x0, y0⟩ := B0
              simp only at HTK HKP HS8
              have d0 := HS8.out.cell (i := 0) (by simp)
              have d1 := HS8.out.cell (i := 1) (by simp)
              simp only [List.getD_cons_zero, List.getD_cons_succ] at d0 d1
              by_cases hy : y0 = -1
              · have hyb : (y0 == -1) = true := by simpa using hy
                have HB1 := hide (HTK.out (Or.inl hy))
                clear hy HTK HKP
                go_wp2_with (first | (refine wpList_store_oc rfl _ _ rfl s ld k x0 y0 rfl rfl HS8.out ?_; intro w9 r9 k9))
                exact ⟨⟨k + 1, by go_num, by omega, by rw [HB1.out]; exact r9, hide (HK8.out.keeps k9 (by omega)), hide (HR8.out.keeps k9 (by omega)), hide (HM8.out.keeps k9 (by omega)), hide (HX8.out.trans (k9.mono (fun k _ h => Or.inr (by omega))))⟩, by simp [intOf]; omega⟩
              · have hyb : (y0 == -1) = false := by simpa using hy
                go_wp2_with (first | refine wpList_load_bdw rfl _ rfl b rfl (bdL (pad S) p t) hl.out HK8.out ?_)
                refine (better_any (pad S) HP.out p t ld x0 _).mono ?_
                rintro e w9 ⟨rfl, hw⟩
                have HS9 := hide (HS8.out.below hw HS8.out.lt)
                have HK9 := hide (HK8.out.below hw HK8.out.lt)
                have HR9 := hide (HR8.out.below hw HR8.out.lt)
                have HM9 := hide (HM8.out.below hw HM8.out.lt)
                have HX9 := hide (HX8.out.trans (Keeps.of_all hw))
                clear hw HS8 HK8 HR8 HM8 HX8 d0 d1
                cases hbt : bet t ld x0 with
                | true =>
                  have HB1 := hide (HTK.out (Or.inr hbt))
                  clear hy hbt HTK HKP
                  go_wp2_with (first | (refine wpList_store_oc rfl _ _ rfl s ld k x0 y0 rfl rfl HS9.out ?_; intro w10 r10 k10))
                  exact ⟨⟨k + 1, by go_num, by omega, by rw [HB1.out]; exact r10, hide (HK9.out.keeps k10 (by omega)), hide (HR9.out.keeps k10 (by omega)), hide (HM9.out.keeps k10 (by omega)), hide (HX9.out.trans (k10.mono (fun k _ h => Or.inr (by omega))))⟩, by simp [intOf]; omega⟩
                | false =>
                  have HB1 := hide (HKP.out hy hbt)
                  clear hy hbt HTK HKP
                  go_wp2_with fail
                  exact ⟨⟨k + 1, by go_num, by omega, by rw [HB1.out]; exact HS9, HK9, HR9, HM9, HX9⟩, by simp [intOf]; omega⟩
          · obtain rfl : k = p := by omega
            have hlt' : ¬ (k : Int) < (k : Int) := by omega
            have HV2 : Hid (bst (val k) k t S k = vv) := hide HV.out.symm
            rw [HV2.out] at hS3
            obtain ⟨w4, PU, hM4, hk4⟩ := hM3.out.put HBD.out
            rw [HVV.out] at PU
            have HS4 := hide (hS3.out.keeps hk4 (by omega))
            have HR4 := hide (hR3.out.keeps hk4 (by omega))
            have HM4 := hide hM4
            have HX4 := hide (hX3.out.trans (hk4.mono (fun k _ h => Or.inl h)))
            clear hM4 hk4 hR3 hM3 hX3 HV HIH HV2
            have hx0 : vv.1 = vv.1 := rfl
            clear hx0
            go_wp2_with (first | refine wpList_load_bd rfl _ rfl b rfl (bdL (pad S) k t) hl.out hK3.out ?_ | refine wpList_load_oc rfl _ rfl s rfl vv.1 vv.2 hS3.out ?_ | refine wpList_load_oc rfl _ rfl s rfl vv.1 vv.2 HS4.out ?_ | (refine wpList_store_oc rfl _ _ rfl (b + 1) vv.1 vv.2 0 0 rfl rfl HR4.out ?_; intro w5 r5 k5))
            refine bodyPost_ret (results_oc rfl _ _ (b + 1) rfl vv.1 vv.2 r5) rfl ⟨rfl, HM4.out.keeps k5 (by omega), HKM.out _ (HX4.out.trans (k5.mono (fun k _ h => Or.inr (by omega))))⟩

end Go.Proofs.Ytmdnoiebodaikaa
