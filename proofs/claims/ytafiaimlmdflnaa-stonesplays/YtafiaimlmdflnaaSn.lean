/-
  A stone in a play. No conditions beyond those that each theorem bears.
-/
import Derived.Test.YtafiaimlmdflnaaPy
import Derived.Test.YtafiaimlmdflnaaFm
namespace Go.Proofs.Ytafiaimlmdflnaa
open Go.RowKit Go.Shelf Go.Maps Go.WideMaps

theorem zero88 (w : World) : (zeroValue 88).run Try.prog w = .ok (.agg #[]) w := by
  simp [zeroValue, go_sem]
  rfl

theorem St.look {w : World} {b n : Nat} {X : List (List Int)} (h : St w b n X) {s : List Int} (hs : Pic s) :
    (Instr.lookup 68 (.map (some b)) (sv s) true).run Try.prog w = .ok (.tuple #[.agg #[], .bool (decide (s ∈ X))]) w := by
  obtain ⟨D, hD, hh⟩ := h.own
  obtain ⟨v, ps, hrun, hv⟩ := hD.look_ok pic_keyed Try.underlying68 (zero88 w) unitElem_mk hs.key
  obtain ⟨rfl, -⟩ := unitElem_inv hv
  rw [hrun]
  have e : Maps.has D (kof s) = decide (s ∈ X) := by
    rw [Bool.eq_iff_iff, hh]
    simp only [decide_eq_true_eq]
    constructor
    · rintro ⟨r, hr, e⟩
      rw [← kof_inj (h.good r hr) hs e]
      exact hr
    · exact fun h => ⟨s, h, rfl⟩
  rw [e]

theorem wp_update_st {o : Oper} {a : Act} {w : World} {K : Act → World → Prop} {Q : Exit → Act → World → Prop} (m x y : Operand) (ho : o.op = .mapUpdate 68 m x y ∨ o.op = .insert 68 m x y)
    {b n : Nat} {X : List (List Int)} (h : St w b n X) (hn : n < 1000000000) {s : List Int} (hs : Pic s) (hm : a.eval m = .map (some b)) (hx : a.eval x = sv s) (hy : a.eval y = .agg #[])
    (hK : ∀ w', St w' b (n + 1) (s :: X) → Keeps (fun k => k = b) w w' → K (a.put o.dst undef) w') : o.wp Try.prog a w K Q := by
  obtain ⟨w', hrun, h1, h2⟩ := h.put hn hs
  have := hK w' h1 h2
  unfold Oper.wp
  rcases ho with ho | ho <;> (simp [execOp, ho, hm, hx, hy, hrun, Result.andThen]; exact this)

theorem yieldsIf_look {ops : Array Oper} {S : World → Prop} {op : Oper} {a : Act} (hw : Region.wanted op (yielded ops a.tmps) = true) (m x : Operand) (ho : op.op = .lookup 68 m x true)
    {b n : Nat} {X : List (List Int)} {s : List Int} (hs : Pic s) (hm : a.eval m = .map (some b)) (hx : a.eval x = sv s) (hS : ∀ w, S w → St w b n X) : YieldsIf Try.prog ops S op (.tuple #[.agg #[], .bool (decide (s ∈ X))]) a :=
  .inl ⟨hw, fun w hw' => by
    unfold execOp
    simp only [ho, hm, hx, Sem.run_bind, (hS w hw').look hs, Result.andThen_ok, Sem.run_pure]⟩

theorem PlayAt.below {w w' : World} {g b W H N : Nat} {s : PS} (h : PlayAt w g b W H N s) (hb : Below w.heap.size w w') : PlayAt w' g b W H N s := by
  obtain ⟨⟨cb, bc, hPy, hBw, hcg, hcb⟩, hSt, hbg, hmay, ht, hu, hq⟩ := h
  exact ⟨⟨cb, bc, hPy.below hb hPy.lt, hBw.mono hb, hcg, hcb⟩, hSt.below hb hSt.lt, hbg, hmay, ht, hu, hq⟩

theorem Pb.range {w : World} {b : Nat} {S : List Int} (h : Pb w b S) (hl : S.length = 100) : w.rangeAt b 0 (ivz S) := by
  have := World.rangeAt_of_block h 0 100
  have e : ((ivz S).toArray.extract 0 (0 + 100)).toList = ivz S := by
    rw [Nat.zero_add]
    simp
    rw [List.take_of_length_le (by rw [List.length_map, hl]; omega)]
  rwa [e] at this

attribute [local irreducible] D4 spr rgs rgsU lib goneU gone clr grp pz pt pE pad kof

theorem build88 (w : World) : (Instr.build 88 #[]).run Try.prog w = .ok (.agg #[]) w := by
  simp [Instr.build, go_sem, run_underlying Try.underlying88]

set_option maxRecDepth 100000 in
set_option maxHeartbeats 16000000 in
theorem stone_any (g b W H N : Nat) (s : PS) (x : Int) (w : World) (hW : 1 ≤ W ∧ W ≤ 10) (hH : 1 ≤ H ∧ H ≤ 10) (hN : W * H = N) (hm : s.m ≤ 1000) (hP : PlayAt w g b W H N s) :
    Calls Try.prog 60 #[.pointer (some ⟨g, 0, none⟩), .int .i64 x] w fun e w' => e = .returned (.int .i64 ((stn W H s x).2 : Nat)) ∧ PlayAt w' g b W H N (stn W H s x).1 ∧ Keeps (fun k => k = g ∨ k = b) w w' := by
  have HPA := hide hP
  obtain ⟨⟨cb, bc, hPy, hBw, hcg, hcb⟩, hSt, hbg, hmay, ht, hu, hq⟩ := hP
  have hN100 : N ≤ 100 := by rw [← hN]; exact Nat.mul_le_mul hW.2 hH.2
  have hN0 : 0 < N := by rw [← hN]; exact Nat.mul_pos hW.1 hH.1
  obtain ⟨tn, htn⟩ : ∃ tn, s.m % 2 = tn := ⟨_, rfl⟩
  have htn1 : tn ≤ 1 := by omega
  have hrem : Int.tmod (s.m : Int) 2 = (tn : Int) := by rw [Int.tmod_eq_emod_of_nonneg (by omega)]; omega
  have HPU := hide (put_all W H N bc cb 0 (1 + tn) x s.Z w hW hH hN (by omega) hBw.rd)
  obtain ⟨-, -, c5, -, -⟩ := hPy.cells
  have hr0 := hPy.range0
  have hmi : ((1 + tn : Nat) : Int) = 1 + (tn : Int) := by omega
  rw [hmi] at HPU
  obtain ⟨R, hR⟩ : ∃ R, stn W H s x = R := ⟨_, rfl⟩
  rw [hR]
  have HST : Hid (R = if pE W H s.Z (1 + tn) x = 0 then
    (open Classical in if pad (pz W H s.Z (1 + tn) x.toNat) ∈ s.X then (s, 8)
    else (⟨pz W H s.Z (1 + tn) x.toNat, if tn = 0 then s.t + pt W H s.Z (1 + tn) x.toNat else s.t, if tn = 0 then s.u else s.u + pt W H s.Z (1 + tn) x.toNat, s.m + 1, 0, pad (pz W H s.Z (1 + tn) x.toNat) :: s.X⟩, 0))
    else (s, pE W H s.Z (1 + tn) x)) := hide (by rw [← hR]; unfold stn; rw [htn])
  clear hR
  have HPY := hide hPy
  have HNN := hide hN
  have HMY := hide hmay
  have HSS := hide hSt
  have hgl := hPy.lt
  have hbl := hSt.lt
  clear hPy hBw hmay hSt hN hcg hcb htn
  go_enter Try.func60, Try.ntmps60
  go_upto_region 2 with fail
  clear c5 hrem hmi
  go_wp2_with (first | (refine wpList_load_mid rfl 54 _ rfl g 0 rfl [.int .i64 W, .int .i64 H, .slice (some ⟨cb, 0, none⟩) N bc] _ hr0 Try.underlying54 rfl size54 ?_) | fail)
  refine HPU.out.mono ?_
  rintro e w2 ⟨hb2, h2⟩
  have K2 := Hb.new w2 0 0 none 0 0
  rcases h2 with ⟨h21, h22, xg, xc, rfl, hBx, hxl⟩ | ⟨h21, rfl⟩
  · have Ex := HST.out
    rw [if_pos h21] at Ex
    have hx0 : 0 ≤ x := h22.1
    obtain ⟨p, rfl⟩ := Int.eq_ofNat_of_zero_le hx0
    rw [Int.toNat_natCast] at *
    have hpt : pt W H s.Z (1 + tn) p ≤ 100 := by
      rw [pt, gone]
      exact Nat.le_trans (goneU_len (List.prefix_refl _)) (by rw [HNN.out]; exact hN100)
    have HZ2 : Hid (mayP W H (pz W H s.Z (1 + tn) p)) := hide (pz_may rfl rfl HMY.out (by omega))
    obtain ⟨Z', hZ'⟩ : ∃ Z', pz W H s.Z (1 + tn) p = Z' := ⟨_, rfl⟩
    obtain ⟨k, hk⟩ : ∃ k, pt W H s.Z (1 + tn) p = k := ⟨_, rfl⟩
    rw [hZ', hk] at Ex
    rw [hZ'] at HZ2 hBx
    rw [hk] at hpt ⊢
    have HEX := hide Ex
    have HBX := hide hBx
    have hxlt := hBx.lt
    clear hZ' hk Ex hBx h21 h22 hx0 HPU HST hr0
    go_upto_region 3 with (first | (refine wpList_store_hb rfl (.tmp 6) (.tmp 26) rfl w2.heap.size rfl rfl K2 ?_; intro w3 K3 kk3))
    have HB3 : Hid (Below w.heap.size w w3) := hide (hb2.trans ((Below.refl w.heap.size w2).alloc hb2.size _ |>.trans (kk3.below (by simp; have := hb2.size; omega) (fun k hk e => by have := hb2.size; omega))))
    have HX3 := hide ((HBX.out.mono ((Below.refl _ w2).alloc (Nat.le_refl _) (.cells (gdA 0 0 none 0 0) 54))).keeps kk3 (by omega))
    have HXL := hide hxl
    have HPZ : Hid (Pic (pad Z')) := hide (pad_pic (by rw [HX3.out.rd.len]; exact hN100) HZ2.out.2.2.2.2.2)
    have HLL := hide HPZ.out.len
    have HPC := hide (picture_any W H N xc xg 0 Z' w3 hN0 hN100 HX3.out.rd)
    have HK3 := hide K3
    clear K2 kk3 HBX
    go_wp2_with (first | (refine wpList_load_hb rfl (.tmp 6) rfl w2.heap.size rfl HK3.out ?_) | fail)
    refine HPC.out.mono ?_
    rintro e w4 ⟨rfl, hb4⟩
    obtain ⟨PZ, hPZ⟩ : ∃ PZ, pad Z' = PZ := ⟨_, rfl⟩
    rw [hPZ] at HEX HPZ HLL
    rw [hPZ]
    have K4 := zrs_new w4
    go_upto_region 6 with (first | (refine wpList_store_pb rfl (.tmp 9) (.tmp 33) rfl w4.heap.size HLL.out rfl rfl (by rfl) K4 ?_; intro w5 K5 kk5))
    have B45 : Below w4.heap.size w4 w5 := ((Below.refl _ w4).alloc (Nat.le_refl _) _).trans (kk5.below (by simp) (fun k hk e => by omega))
    have B35 : Below w3.heap.size w3 w5 := hb4.trans (B45.mono hb4.size)
    have HB5 : Hid (Below w.heap.size w w5) := hide (HB3.out.trans (B35.mono HB3.out.size))
    have HX5 := hide (HX3.out.mono B35)
    have HK5 := hide (HK3.out.below B35 HK3.out.lt)
    have P5 := HPY.out.below HB5.out hgl
    have S5 := HSS.out.below HB5.out hbl
    have hs5 : w4.heap.size < w5.heap.size := K5.lt
    have h24 : w2.heap.size < w4.heap.size := Nat.lt_of_lt_of_le HK3.out.lt hb4.size
    have h02 : w.heap.size ≤ w2.heap.size := hb2.size
    have hxg4 : xg < w4.heap.size := Nat.lt_of_lt_of_le HX3.out.lt hb4.size
    clear B45 B35 kk5 K4 hb4 HPC HX3 HB3 HK3 HPY HSS hPZ hb2
    refine wp_region_held (S := fun W4 => Below w5.heap.size w5 W4) (by kernel_rfl) ?_
    change wpAnyH _ _ _ _ _ _ _ _ (World.drew _)
    have SW : Below w5.heap.size w5 w5.drew := (Below.refl _ w5).drew
    refine wpAnyH_take (i := 0) (v := .pointer (some ⟨g, 0, none⟩)) rfl (by kernel_rfl) (by kernel_rfl) (by kernel_rfl) (fun _ _ _ h => h) (Or.inl ⟨by rfl, ?_⟩) SW ?_
    · intro W4 hW4
      go_simp <;> first | done | rfl | (rw [IntKind.wrap_i64]; omega) | omega
    go_simp
    refine wpAnyH_take (i := 1) (v := .pointer (some ⟨g, 0, none⟩)) rfl (by kernel_rfl) (by kernel_rfl) (by kernel_rfl) (fun _ _ _ h => h) (Or.inl ⟨by rfl, ?_⟩) SW ?_
    · intro W4 hW4
      go_simp <;> first | done | rfl | (rw [IntKind.wrap_i64]; omega) | omega
    go_simp
    refine wpAnyH_take (i := 2) (v := .pointer (some ⟨g, 7, none⟩)) rfl (by kernel_rfl) (by kernel_rfl) (by kernel_rfl) (fun _ _ _ h => h) (Or.inl ⟨by rfl, ?_⟩) SW ?_
    · intro W4 hW4
      go_simp <;> first | done | rfl | (rw [IntKind.wrap_i64]; omega) | omega
    go_simp
    refine wpAnyH_take (i := 3) (v := .map (some b)) rfl (by kernel_rfl) (by kernel_rfl) (by kernel_rfl) (fun _ _ _ h => h) (Or.inl ⟨by rfl, ?_⟩) SW ?_
    · intro W4 hW4
      have hcell := (P5.below hW4 P5.lt).cells.2.2.2.2
      go_simp <;> first | done | rfl | (rw [IntKind.wrap_i64]; omega) | omega
    go_simp
    refine wpAnyH_take (i := 4) (v := sv PZ) rfl (by kernel_rfl) (by kernel_rfl) (by kernel_rfl) (fun _ _ _ h => h) (yieldsIf_load_mid (by rfl) 86 _ rfl w4.heap.size 0 (by rfl) (ivz PZ) _ (fun W4 hW4 => (K5.below hW4 K5.lt).range HLL.out) Try.underlying86 rfl (by rw [List.length_map, HLL.out]; exact size86)) SW ?_
    go_simp
    obtain ⟨dd, hdd⟩ : ∃ dd, decide (PZ ∈ s.X) = dd := ⟨_, rfl⟩
    refine wpAnyH_take (i := 5) (v := .tuple #[.agg #[], .bool dd]) rfl (by kernel_rfl) (by kernel_rfl) (by kernel_rfl) (fun _ _ _ h => h) (by rw [← hdd]; exact yieldsIf_look (by rfl) (.tmp 38) (.tmp 39) rfl HPZ.out rfl rfl (fun W4 hW4 => S5.below hW4 S5.lt)) SW ?_
    go_simp
    refine wpAnyH_take (i := 6) (v := .tuple #[.agg #[], .bool dd]) rfl (by kernel_rfl) (by kernel_rfl) (by kernel_rfl) (fun _ _ _ h => h) (Or.inl ⟨by rfl, ?_⟩) SW ?_
    · intro W4 hW4
      go_simp <;> first | done | rfl | (rw [IntKind.wrap_i64]; omega) | omega
    go_simp
    refine wpAnyH_take (i := 7) (v := .agg #[]) rfl (by kernel_rfl) (by kernel_rfl) (by kernel_rfl) (fun _ _ _ h => h) (Or.inl ⟨by rfl, ?_⟩) SW ?_
    · intro W4 hW4
      go_simp <;> first | done | rfl | (rw [IntKind.wrap_i64]; omega) | omega
    go_simp
    refine wpAnyH_take (i := 8) (v := .bool dd) rfl (by kernel_rfl) (by kernel_rfl) (by kernel_rfl) (fun _ _ _ h => h) (Or.inl ⟨by rfl, ?_⟩) SW ?_
    · intro W4 hW4
      go_simp <;> first | done | rfl | (rw [IntKind.wrap_i64]; omega) | omega
    go_simp
    refine wpAnyH_ready (rs := [9]) (by kernel_rfl) (by simp) ?_
    refine AllReadyH.cons rfl (fun K1 hK1 => ?_) AllReadyH.nil
    go_simp
    refine hK1.out _ _ (SW.alloc SW.size _) (fun SW => ?_)
    clear hK1 K1
    go_simp
    refine wpAnyH_ready (rs := [10]) (by kernel_rfl) (by simp) ?_
    refine AllReadyH.cons rfl (fun K1 hK1 => ?_) AllReadyH.nil
    go_simp
    refine hK1.out _ _ SW (fun SW => ?_)
    clear hK1 K1
    go_simp
    refine wpAnyH_ready (rs := [11]) (by kernel_rfl) (by simp) ?_
    refine AllReadyH.cons rfl (fun K1 hK1 => ?_) AllReadyH.nil
    go_simp
    refine hK1.out _ _ SW (fun SW => ?_)
    clear hK1 K1
    go_simp
    refine wpAnyH_done (by kernel_rfl) ?_ _
    have HB6 : Hid (Below w.heap.size w (w5.alloc (Obj.cells #[] 88)).drew) := hide (HB5.out.trans (SW.mono HB5.out.size))
    have HX6 := hide (HX5.out.mono SW)
    have HK6 := hide (HK5.out.below SW HK5.out.lt)
    have P6 := P5.below SW P5.lt
    have S6 := S5.below SW S5.lt
    have K6 := K5.below SW K5.lt
    clear P5 S5 K5 HK5 HX5 HB5 SW K3
    generalize (w5.alloc (Obj.cells #[] 88)).drew = w6 at *
    cases dd with
    | true =>
      clear HX6 HK6 K6
      have HP6 := hide P6
      have HS6 := hide S6
      clear P6 S6
      go_wp2_with fail
      go_ret
      have hin : PZ ∈ s.X := of_decide_eq_true hdd
      have Ex := HEX.out
      rw [if_pos hin] at Ex
      rw [Ex]
      exact ⟨rfl, HPA.out.below HB6.out, Keeps.of_all HB6.out⟩
    | false =>
      have hin : ¬ PZ ∈ s.X := of_decide_eq_false hdd
      have Ex := HEX.out
      rw [if_neg hin] at Ex
      have HEX := hide Ex
      clear Ex hin hdd
      have HK0 : Hid (Keeps (fun k => k = g ∨ k = b) w w6) := hide (Keeps.of_all HB6.out)
      have hbx : xg ≠ b := by omega
      have hbk : w2.heap.size ≠ b := by omega
      have hbp : w4.heap.size ≠ b := by omega
      go_upto_region 9 with fail
      refine wp_region_held (S := fun W4 => Keeps (fun k => k = b) w6 W4) (by kernel_rfl) ?_
      change wpAnyH _ _ _ _ _ _ _ _ (World.drew _)
      have SW : Keeps (fun k => k = b) w6 w6.drew := (Keeps.refl _ w6).drew
      refine wpAnyH_take (i := 0) (v := .pointer (some ⟨g, 0, none⟩)) rfl (by kernel_rfl) (by kernel_rfl) (by kernel_rfl) (fun _ _ _ h => h) (Or.inl ⟨by rfl, ?_⟩) SW ?_
      · intro W4 hW4
        go_simp <;> first | done | rfl | (rw [IntKind.wrap_i64]; omega) | omega
      go_simp
      refine wpAnyH_take (i := 1) (v := .pointer (some ⟨g, 0, none⟩)) rfl (by kernel_rfl) (by kernel_rfl) (by kernel_rfl) (fun _ _ _ h => h) (Or.inl ⟨by rfl, ?_⟩) SW ?_
      · intro W4 hW4
        go_simp <;> first | done | rfl | (rw [IntKind.wrap_i64]; omega) | omega
      go_simp
      refine wpAnyH_take (i := 2) (v := .pointer (some ⟨g, 7, none⟩)) rfl (by kernel_rfl) (by kernel_rfl) (by kernel_rfl) (fun _ _ _ h => h) (Or.inl ⟨by rfl, ?_⟩) SW ?_
      · intro W4 hW4
        go_simp <;> first | done | rfl | (rw [IntKind.wrap_i64]; omega) | omega
      go_simp
      refine wpAnyH_take (i := 3) (v := .map (some b)) rfl (by kernel_rfl) (by kernel_rfl) (by kernel_rfl) (fun _ _ _ h => h) (Or.inl ⟨by rfl, ?_⟩) SW ?_
      · intro W4 hW4
        have hcell := (P6.keeps hW4 (fun e => hbg e.symm)).cells.2.2.2.2
        go_simp <;> first | done | rfl | (rw [IntKind.wrap_i64]; omega) | omega
      go_simp
      refine wpAnyH_take (i := 4) (v := sv PZ) rfl (by kernel_rfl) (by kernel_rfl) (by kernel_rfl) (fun _ _ _ h => h) (yieldsIf_load_mid (by rfl) 86 _ rfl w4.heap.size 0 (by rfl) (ivz PZ) _ (fun W4 hW4 => (K6.keeps hW4 hbp).range HLL.out) Try.underlying86 rfl (by rw [List.length_map, HLL.out]; exact size86)) SW ?_
      go_simp
      refine wpAnyH_take (i := 5) (v := .agg #[]) rfl (by kernel_rfl) (by kernel_rfl) (by kernel_rfl) (fun _ _ _ h => h) (Or.inl ⟨by rfl, ?_⟩) SW ?_
      · intro W4 hW4
        go_simp <;> first | done | rfl | (rw [IntKind.wrap_i64]; omega) | omega
      go_simp
      have SW0 : Keeps (fun _ => False) w6 w6.drew := (Keeps.refl _ w6).drew
      refine wpAnyH_ready (rs := [6]) (by kernel_rfl) (by simp) ?_
      refine AllReadyH.cons rfl (fun K1 hK1 => ?_) AllReadyH.nil
      refine wp_update_st (.tmp 47) (.tmp 48) (.tmp 49) (.inl rfl) (b := b) (n := s.m + 1) (X := s.X) (show St w6.drew b (s.m + 1) s.X from S6.kept SW0 (fun e => e.elim)) (by omega) HPZ.out rfl rfl rfl ?_
      intro w7 S7 kk7
      refine hK1.out _ _ (SW.after kk7 (fun i _ e => e)) (fun SW => ?_)
      clear hK1 K1
      go_simp
      refine wpAnyH_done (by kernel_rfl) ?_ _
      have P7 := P6.keeps SW (fun e => hbg e.symm)
      have K7 := HK6.out.keeps SW hbk
      have HX7 := hide (HX6.out.keeps SW hbx)
      have HK7 : Hid (Keeps (fun k => k = g ∨ k = b) w w7) := hide (HK0.out.after SW (fun i _ e => .inr e))
      clear P6 S6 K6 HK6 HX6 HB6 SW SW0 HK0 kk7
      go_upto_region 11 with (first
        | (refine wpList_load_hb rfl (.tmp 6) rfl w2.heap.size rfl K7 ?_)
        | (refine wpList_store_py rfl (.tmp 53) (.tmp 51) rfl rfl rfl P7 ?_; intro w8 K8 kk8))
      have hbx2 : xg ≠ g := by omega
      have HS8 := hide (S7.kept kk8 hbg)
      have HX8 := hide (HX7.out.keeps kk8 hbx2)
      have HK8 : Hid (Keeps (fun k => k = g ∨ k = b) w w8) := hide (HK7.out.after kk8 (fun i _ e => .inl e))
      clear P7 K7 HX7 HK7 S7 kk8
      have h01 : tn = 0 ∨ tn = 1 := by omega
      rcases h01 with rfl | rfl
      · obtain ⟨tk, htk⟩ : ∃ tk, s.t + k = tk := ⟨_, rfl⟩
        have HTK := hide htk
        have hsum : (s.t : Int) + (k : Int) = (tk : Int) := by omega
        have htk9 : tk ≤ 200000 := by omega
        clear htk
        have cT := K8.cells.1
        refine wp_region_held (S := fun _ => True) (by kernel_rfl) ?_
        change wpAnyH _ _ _ _ _ _ _ _ (World.drew _)
        have SW : True := trivial
        refine wpAnyH_take (i := 0) (v := .pointer (some ⟨g, 0, none⟩)) rfl (by kernel_rfl) (by kernel_rfl) (by kernel_rfl) (fun _ _ _ h => h) (Or.inl ⟨by rfl, ?_⟩) SW ?_
        · intro W4 hW4
          go_simp <;> first | done | rfl | (rw [IntKind.wrap_i64]; omega) | omega
        go_simp
        refine wpAnyH_take (i := 1) (v := .int .i64 0) rfl (by kernel_rfl) (by kernel_rfl) (by kernel_rfl) (fun _ _ _ h => h) (Or.inl ⟨by rfl, ?_⟩) SW ?_
        · intro W4 hW4
          go_simp <;> first | done | rfl | (rw [IntKind.wrap_i64]; omega) | omega
        go_simp
        refine wpAnyH_take (i := 2) (v := .pointer (some ⟨g, 0, none⟩)) rfl (by kernel_rfl) (by kernel_rfl) (by kernel_rfl) (fun _ _ _ h => h) (Or.inl ⟨by rfl, ?_⟩) SW ?_
        · intro W4 hW4
          go_simp <;> first | done | rfl | (rw [IntKind.wrap_i64]; omega) | omega
        go_simp
        refine wpAnyH_take (i := 3) (v := .pointer (some ⟨g, 3, none⟩)) rfl (by kernel_rfl) (by kernel_rfl) (by kernel_rfl) (fun _ _ _ h => h) (Or.inl ⟨by rfl, ?_⟩) SW ?_
        · intro W4 hW4
          go_simp <;> first | done | rfl | (rw [IntKind.wrap_i64]; omega) | omega
        go_simp
        refine wpAnyH_take (i := 4) (v := .pointer (some ⟨g, 3, none⟩)) rfl (by kernel_rfl) (by kernel_rfl) (by kernel_rfl) (fun _ _ _ h => h) (Or.inl ⟨by rfl, ?_⟩) SW ?_
        · intro W4 hW4
          go_simp <;> first | done | rfl | (rw [IntKind.wrap_i64]; omega) | omega
        go_simp
        refine wpAnyH_take (i := 6) (v := .int .i64 k) rfl (by kernel_rfl) (by kernel_rfl) (by kernel_rfl) (fun _ _ _ h => h) (Or.inl ⟨by rfl, ?_⟩) SW ?_
        · intro W4 hW4
          go_simp <;> first | done | rfl | (rw [IntKind.wrap_i64]; omega) | omega
        go_simp
        refine wpAnyH_take (i := 8) (v := .pointer (some ⟨g, 0, none⟩)) rfl (by kernel_rfl) (by kernel_rfl) (by kernel_rfl) (fun _ _ _ h => h) (Or.inl ⟨by rfl, ?_⟩) SW ?_
        · intro W4 hW4
          go_simp <;> first | done | rfl | (rw [IntKind.wrap_i64]; omega) | omega
        go_simp
        refine wpAnyH_take (i := 9) (v := .pointer (some ⟨g, 3, none⟩)) rfl (by kernel_rfl) (by kernel_rfl) (by kernel_rfl) (fun _ _ _ h => h) (Or.inl ⟨by rfl, ?_⟩) SW ?_
        · intro W4 hW4
          go_simp <;> first | done | rfl | (rw [IntKind.wrap_i64]; omega) | omega
        go_simp
        refine wpAnyH_ready (rs := [5]) (by kernel_rfl) (by simp) ?_
        refine AllReadyH.cons rfl (fun K1 hK1 => ?_) AllReadyH.nil
        go_simp
        refine hK1.out _ _ trivial (fun _ => ?_)
        clear hK1 K1
        go_simp
        refine wpAnyH_take (i := 7) (v := .int .i64 (tk : Int)) rfl (by kernel_rfl) (by kernel_rfl) (by kernel_rfl) (fun _ _ _ h => h) (Or.inl ⟨by rfl, ?_⟩) SW ?_
        · intro W4 hW4
          go_simp <;> first | done | rfl | (rw [IntKind.wrap_i64]; omega) | omega
        go_simp
        refine wpAnyH_take (i := 10) (v := .pointer (some ⟨g, 3, none⟩)) rfl (by kernel_rfl) (by kernel_rfl) (by kernel_rfl) (fun _ _ _ h => h) (Or.inl ⟨by rfl, ?_⟩) SW ?_
        · intro W4 hW4
          go_simp <;> first | done | rfl | (rw [IntKind.wrap_i64]; omega) | omega
        go_simp
        have fT := K8.frozen 3
        refine wpAnyH_ready (rs := [11]) (by kernel_rfl) (by simp) ?_
        refine AllReadyH.cons rfl (fun K1 hK1 => ?_) AllReadyH.nil
        go_simp
        refine hK1.out _ _ trivial (fun _ => ?_)
        clear hK1 K1
        go_simp
        refine wpAnyH_done (by kernel_rfl) ?_ _
        have kk9 := (Keeps.set1 w8 g 3 (.int .i64 (tk : Int))).drew
        have K9 := (K8.setT (tk : Int)).keeps (X := fun _ => False) ((Keeps.refl _ _).drew) (fun e => e.elim)
        have HS9 := hide (HS8.out.kept kk9 hbg)
        have HX9 := hide (HX8.out.keeps kk9 (by have := HXL.out; omega))
        have HK9 : Hid (Keeps (fun k => k = g ∨ k = b) w (w8.setCell ⟨g, 3, none⟩ (.int .i64 (tk : Int))).drew) := hide (HK8.out.after kk9 (fun i _ e => .inl e))
        clear K8 kk9 HS8 HX8 HK8 cT fT hsum SW
        generalize (w8.setCell ⟨g, 3, none⟩ (.int .i64 (tk : Int))).drew = w9 at *
        have f6 := K9.frozen 6
        obtain ⟨-, -, -, c6, -⟩ := K9.cells
        have K10 := K9.setQ 0
        have kk10 := Keeps.set1 w9 g 6 (.int .i64 0)
        have HS10 := hide (HS9.out.kept kk10 hbg)
        have HX10 := hide (HX9.out.keeps kk10 (by have := HXL.out; omega))
        have HK10 := hide (HK9.out.after kk10 (fun i _ e => .inl e))
        go_upto_region 13 with fail
        clear K9 kk10 HS9 HX9 HK9 f6 c6
        generalize w9.setCell ⟨g, 6, none⟩ (.int .i64 0) = w10 at *
        have f5 := K10.frozen 5
        obtain ⟨-, -, c5, -, -⟩ := K10.cells
        obtain ⟨mm, hmm⟩ : ∃ mm, s.m + 1 = mm := ⟨_, rfl⟩
        have hms : (s.m : Int) + 1 = (mm : Int) := by omega
        have HMM := hide hmm
        clear hmm
        have K11 := K10.setM (mm : Int)
        have kk11 := Keeps.set1 w10 g 5 (.int .i64 (mm : Int))
        have HS11 := hide (HS10.out.kept kk11 hbg)
        have HX11 := hide (HX10.out.keeps kk11 (by have := HXL.out; omega))
        have HK11 := hide (HK10.out.after kk11 (fun i _ e => .inl e))
        have HK12 := hide K11
        clear K10 kk11 HS10 HX10 HK10 K11
        go_wp2_with fail
        go_ret
        obtain rfl := HTK.out
        obtain rfl := HMM.out
        rw [HEX.out]
        refine ⟨rfl, ⟨⟨xg, xc, HK12.out, HX11.out, by have := HXL.out; omega, by have := HXL.out; omega⟩, HS11.out, hbg, HZ2.out, ?_, ?_, ?_⟩, HK11.out⟩
        · show s.t + k ≤ 100 * (s.m + 1)
          omega
        · show s.u ≤ 100 * (s.m + 1)
          omega
        · show 0 ≤ 2
          omega
      · obtain ⟨tk, htk⟩ : ∃ tk, s.u + k = tk := ⟨_, rfl⟩
        have HTK := hide htk
        have hsum : (s.u : Int) + (k : Int) = (tk : Int) := by omega
        have htk9 : tk ≤ 200000 := by omega
        clear htk
        have cT := K8.cells.2.1
        refine wp_region_held (S := fun _ => True) (by kernel_rfl) ?_
        change wpAnyH _ _ _ _ _ _ _ _ (World.drew _)
        have SW : True := trivial
        refine wpAnyH_take (i := 0) (v := .pointer (some ⟨g, 0, none⟩)) rfl (by kernel_rfl) (by kernel_rfl) (by kernel_rfl) (fun _ _ _ h => h) (Or.inl ⟨by rfl, ?_⟩) SW ?_
        · intro W4 hW4
          go_simp <;> first | done | rfl | (rw [IntKind.wrap_i64]; omega) | omega
        go_simp
        refine wpAnyH_take (i := 1) (v := .int .i64 1) rfl (by kernel_rfl) (by kernel_rfl) (by kernel_rfl) (fun _ _ _ h => h) (Or.inl ⟨by rfl, ?_⟩) SW ?_
        · intro W4 hW4
          go_simp <;> first | done | rfl | (rw [IntKind.wrap_i64]; omega) | omega
        go_simp
        refine wpAnyH_take (i := 2) (v := .pointer (some ⟨g, 0, none⟩)) rfl (by kernel_rfl) (by kernel_rfl) (by kernel_rfl) (fun _ _ _ h => h) (Or.inl ⟨by rfl, ?_⟩) SW ?_
        · intro W4 hW4
          go_simp <;> first | done | rfl | (rw [IntKind.wrap_i64]; omega) | omega
        go_simp
        refine wpAnyH_take (i := 3) (v := .pointer (some ⟨g, 3, none⟩)) rfl (by kernel_rfl) (by kernel_rfl) (by kernel_rfl) (fun _ _ _ h => h) (Or.inl ⟨by rfl, ?_⟩) SW ?_
        · intro W4 hW4
          go_simp <;> first | done | rfl | (rw [IntKind.wrap_i64]; omega) | omega
        go_simp
        refine wpAnyH_take (i := 4) (v := .pointer (some ⟨g, 4, none⟩)) rfl (by kernel_rfl) (by kernel_rfl) (by kernel_rfl) (fun _ _ _ h => h) (Or.inl ⟨by rfl, ?_⟩) SW ?_
        · intro W4 hW4
          go_simp <;> first | done | rfl | (rw [IntKind.wrap_i64]; omega) | omega
        go_simp
        refine wpAnyH_take (i := 6) (v := .int .i64 k) rfl (by kernel_rfl) (by kernel_rfl) (by kernel_rfl) (fun _ _ _ h => h) (Or.inl ⟨by rfl, ?_⟩) SW ?_
        · intro W4 hW4
          go_simp <;> first | done | rfl | (rw [IntKind.wrap_i64]; omega) | omega
        go_simp
        refine wpAnyH_take (i := 8) (v := .pointer (some ⟨g, 0, none⟩)) rfl (by kernel_rfl) (by kernel_rfl) (by kernel_rfl) (fun _ _ _ h => h) (Or.inl ⟨by rfl, ?_⟩) SW ?_
        · intro W4 hW4
          go_simp <;> first | done | rfl | (rw [IntKind.wrap_i64]; omega) | omega
        go_simp
        refine wpAnyH_take (i := 9) (v := .pointer (some ⟨g, 3, none⟩)) rfl (by kernel_rfl) (by kernel_rfl) (by kernel_rfl) (fun _ _ _ h => h) (Or.inl ⟨by rfl, ?_⟩) SW ?_
        · intro W4 hW4
          go_simp <;> first | done | rfl | (rw [IntKind.wrap_i64]; omega) | omega
        go_simp
        refine wpAnyH_ready (rs := [5]) (by kernel_rfl) (by simp) ?_
        refine AllReadyH.cons rfl (fun K1 hK1 => ?_) AllReadyH.nil
        go_simp
        refine hK1.out _ _ trivial (fun _ => ?_)
        clear hK1 K1
        go_simp
        refine wpAnyH_take (i := 7) (v := .int .i64 (tk : Int)) rfl (by kernel_rfl) (by kernel_rfl) (by kernel_rfl) (fun _ _ _ h => h) (Or.inl ⟨by rfl, ?_⟩) SW ?_
        · intro W4 hW4
          go_simp <;> first | done | rfl | (rw [IntKind.wrap_i64]; omega) | omega
        go_simp
        refine wpAnyH_take (i := 10) (v := .pointer (some ⟨g, 4, none⟩)) rfl (by kernel_rfl) (by kernel_rfl) (by kernel_rfl) (fun _ _ _ h => h) (Or.inl ⟨by rfl, ?_⟩) SW ?_
        · intro W4 hW4
          go_simp <;> first | done | rfl | (rw [IntKind.wrap_i64]; omega) | omega
        go_simp
        have fT := K8.frozen 4
        refine wpAnyH_ready (rs := [11]) (by kernel_rfl) (by simp) ?_
        refine AllReadyH.cons rfl (fun K1 hK1 => ?_) AllReadyH.nil
        go_simp
        refine hK1.out _ _ trivial (fun _ => ?_)
        clear hK1 K1
        go_simp
        refine wpAnyH_done (by kernel_rfl) ?_ _
        have kk9 := (Keeps.set1 w8 g 4 (.int .i64 (tk : Int))).drew
        have K9 := (K8.setU (tk : Int)).keeps (X := fun _ => False) ((Keeps.refl _ _).drew) (fun e => e.elim)
        have HS9 := hide (HS8.out.kept kk9 hbg)
        have HX9 := hide (HX8.out.keeps kk9 (by have := HXL.out; omega))
        have HK9 : Hid (Keeps (fun k => k = g ∨ k = b) w (w8.setCell ⟨g, 4, none⟩ (.int .i64 (tk : Int))).drew) := hide (HK8.out.after kk9 (fun i _ e => .inl e))
        clear K8 kk9 HS8 HX8 HK8 cT fT hsum SW
        generalize (w8.setCell ⟨g, 4, none⟩ (.int .i64 (tk : Int))).drew = w9 at *
        have f6 := K9.frozen 6
        obtain ⟨-, -, -, c6, -⟩ := K9.cells
        have K10 := K9.setQ 0
        have kk10 := Keeps.set1 w9 g 6 (.int .i64 0)
        have HS10 := hide (HS9.out.kept kk10 hbg)
        have HX10 := hide (HX9.out.keeps kk10 (by have := HXL.out; omega))
        have HK10 := hide (HK9.out.after kk10 (fun i _ e => .inl e))
        go_upto_region 13 with fail
        clear K9 kk10 HS9 HX9 HK9 f6 c6
        generalize w9.setCell ⟨g, 6, none⟩ (.int .i64 0) = w10 at *
        have f5 := K10.frozen 5
        obtain ⟨-, -, c5, -, -⟩ := K10.cells
        obtain ⟨mm, hmm⟩ : ∃ mm, s.m + 1 = mm := ⟨_, rfl⟩
        have hms : (s.m : Int) + 1 = (mm : Int) := by omega
        have HMM := hide hmm
        clear hmm
        have K11 := K10.setM (mm : Int)
        have kk11 := Keeps.set1 w10 g 5 (.int .i64 (mm : Int))
        have HS11 := hide (HS10.out.kept kk11 hbg)
        have HX11 := hide (HX10.out.keeps kk11 (by have := HXL.out; omega))
        have HK11 := hide (HK10.out.after kk11 (fun i _ e => .inl e))
        have HK12 := hide K11
        clear K10 kk11 HS10 HX10 HK10 K11
        go_wp2_with fail
        go_ret
        obtain rfl := HTK.out
        obtain rfl := HMM.out
        rw [HEX.out]
        refine ⟨rfl, ⟨⟨xg, xc, HK12.out, HX11.out, by have := HXL.out; omega, by have := HXL.out; omega⟩, HS11.out, hbg, HZ2.out, ?_, ?_, ?_⟩, HK11.out⟩
        · show s.t ≤ 100 * (s.m + 1)
          omega
        · show s.u + k ≤ 100 * (s.m + 1)
          omega
        · show 0 ≤ 2
          omega
  · have hee : pE W H s.Z (1 + tn) x ≠ 0 := h21
    have Ex := HST.out
    rw [if_neg hee] at Ex
    obtain ⟨ee, he⟩ : ∃ ee, pE W H s.Z (1 + tn) x = ee := ⟨_, rfl⟩
    rw [he] at hee Ex ⊢
    have HEX := hide Ex
    have hne : ((ee : Int) != 0) = true := by simpa using hee
    clear Ex he HST HPU hr0 h21
    go_wp2_with (first | (refine wpList_store_hb rfl (.tmp 6) (.tmp 26) rfl w2.heap.size rfl rfl K2 ?_; intro w3 K3 kk3))
    go_ret
    have B : Below w.heap.size w w3 := hb2.trans ((Below.refl w.heap.size w2).alloc hb2.size _ |>.trans (kk3.below (by simp; have := hb2.size; omega) (fun k hk e => by have := hb2.size; omega)))
    rw [HEX.out]
    exact ⟨rfl, HPA.out.below B, Keeps.of_all B⟩

end Go.Proofs.Ytafiaimlmdflnaa
