/-
  'HexShort', walked. No conditions beyond those that each theorem bears.
-/
import Derived.Test.YtldgikinmmkhiaaDoorOn
namespace Go.Proofs.YtldgikinmmkhiaaDoor
open Go.RowKit Go.Shelf

theorem wp_store_gd {o : Oper} {a : Act} {w : World} {K : Act → World → Prop} {Q : Exit → Act → World → Prop} (x y : Operand) (ho : o.op = .store 24 x y)
    (b : Nat) {W H : Int} {ad : Option Addr} {n c : Nat} {W' H' : Int} {ad' : Option Addr} {n' c' : Nat} (hx : a.eval x = .pointer (some ⟨b, 0, none⟩)) (hy : a.eval y = .agg (gdA W H ad n c)) (hb : Gd w b W' H' ad' n' c')
    (h : ∀ w', Gd w' b W H ad n c → Keeps (fun k => k = b) w w' → K (a.put o.dst undef) w') : o.wp Tryd.prog a w K Q := by
  have hb' : w.heap[b]? = _ := hb
  refine wp_store_row 24 x y ho b (gdA W H ad n c) hx hy 24 _ hb' size24 rfl (by simp [Value.oneCell']) ?_
  refine h _ ?_ ?_
  · simp [Gd, World.setRow, Array.getElem?_modify, hb']
  · exact ⟨rfl, rfl, rfl, by simp [World.setRow], fun k _ hk => by simp [World.setRow, Array.getElem?_modify, show ¬ b = k from fun e => hk e.symm]⟩

theorem sgn_of {n : Nat} {Z : List Int} (h : hMay n n Z = true) (hl : Z.length = n * n) : Sgn n Z := by
  intro q hq
  have hp := (hMay_iff.1 h).2.2.2.2.2.2
  have := hp (Z.getD q 0) (getD_mem (by omega))
  omega

/-- What the first test of HexShort asks. -/
theorem short_facts {n m : Nat} {Z : List Int} (hn : 1 ≤ n) (hm : m = 1 ∨ m = 2) (hZ : Sgn n Z) : ((shr n Z m == 0) = ((jw n Z : Int) == (m : Int))) ∧ ((shr n Z m == -1) = ((jw n Z : Int) == ((3 - m : Nat) : Int))) := by
  have h1 := (shr_zero hm hZ).trans (jw_iff hn hm hZ).symm
  have h2 := (shr_none (Z := Z) hn hm).trans (jw_iff hn (m := 3 - m) (by omega) hZ).symm
  constructor
  · rw [Bool.eq_iff_iff, beq_iff_eq, beq_iff_eq, h1]
    omega
  · rw [Bool.eq_iff_iff, beq_iff_eq, beq_iff_eq, h2]
    omega

theorem zer_at (M q : Nat) : (grL [] 0 M).getD q 0 = 0 := by
  unfold grL
  by_cases hq : q < M
  · simp [List.getD, hq]
  · simp [List.getD, Nat.le_of_not_lt hq]

theorem may_set {n k m : Nat} {Z : List Int} (hn : 1 ≤ n ∧ n ≤ 10) (hl : Z.length = n * n) (h : hMay n n Z = true) (hm : m = 1 ∨ m = 2) (hk : k < n * n) : hMay n n (Z.set k m) = true := by
  refine may_of hn (by simp [hl]) (fun q hq => ?_)
  rw [getD_setI (by omega)]
  split
  · omega
  · have := sgn_of h hl q hq
    omega

attribute [local irreducible] grL pk jw jl shr toI hF hMay

set_option maxRecDepth 100000 in
set_option maxHeartbeats 8000000 in
theorem short_law (W H : Int) (a : Option Addr) (N c : Nat) (zs : List Int) (x y : Int) (w : World) (hT : Tab w) (h : Rd w a N c zs) (hr : N * 8 ≤ 140737488351232) (hx : -9223372036854775808 ≤ x ∧ x ≤ 9223372036854775807) (hy : -9223372036854775808 ≤ y ∧ y ≤ 9223372036854775807) :
    Calls Tryd.prog 7 #[.agg (gdA W H a N c), .int .i64 x, .int .i64 y] w fun e w' => e = .returned (.bool true) ∧ Below w.heap.size w w' := by
  have hpl := pk_lt x 2 (by omega)
  have HPK := hide (fun W => picked_any x 2 W hx.1 hx.2 (by omega) (by omega))
  obtain ⟨p0, hp0⟩ : ∃ p0, pk x 2 = p0 := ⟨_, rfl⟩
  rw [hp0] at hpl HPK
  obtain ⟨m, hme⟩ : ∃ m, 1 + p0 = m := ⟨_, rfl⟩
  have hmi : (1 : Int) + (p0 : Int) = (m : Int) := by omega
  have hm : m = 1 ∨ m = 2 := by omega
  have hmb : 1 ≤ m ∧ m ≤ 2 := by omega
  have HM := hide hm
  obtain ⟨w1, hw1⟩ : ∃ w1, w.alloc (.cells (gdA W H a N c) 24) = w1 := ⟨_, rfl⟩
  obtain ⟨s1, h1, B1⟩ := alloc_facts hw1
  have G1 : Gd w1 w.heap.size W H a N c := h1
  have R1 := h.mono B1
  have HR1 := hide R1
  have T1 := hT.mono B1
  have HT1 := hide T1
  have HTL := hide hT.lt
  have HG1 := hide G1
  have HB1 := hide B1
  have HGR := hide (fun W0 => grid_any 3 3 0 (by omega) (by omega) (by omega) none 0 0 [] (fun u hu => by cases hu) W0 (Rd.of_nil W0))
  have HS3 := hide (fun (g c0 : Nat) W0 (ht : Tab W0) (hrd : Rd W0 (some ⟨g, 0, none⟩) 9 c0 (grL [] 0 9)) => by
    have e := Shortest_yes 3 g 0 9 c0 1 (grL [] 0 9) W0 (hF_ok (may_of (n := 3) (Z := grL [] 0 9) (by omega) (by rw [grL_len]) (fun q _ => by rw [zer_at]; omega)) (Or.inl rfl)) (by omega) rfl (Or.inl rfl) ht hrd
    rw [shr_empty (n := 3) (by omega) (fun q _ => zer_at 9 q)] at e
    exact e)
  clear hp0 hme hT h h1 s1 B1 R1 T1 hm
  go_enter Tryd.func7, Tryd.ntmps7
  go_upto_region 1 with fail
  clear hw1
  go_wp2_with fail
  refine (HPK.out _).mono ?_
  rintro e wx ⟨rfl, hwx⟩
  subst wx
  go_wp2_with fail
  refine (HGR.out _).mono ?_
  rintro e w2 ⟨ga, gc, rfl, hO, hb2⟩
  obtain ⟨g, c2, hv, -⟩ := own_some hO (by omega)
  simp only [Value.slice.injEq] at hv
  obtain ⟨rfl, -, rfl⟩ := hv
  have HC := hide (HS3.out g gc w2 (HT1.out.mono hb2) (Rd.of_own hO))
  have HB2 := hide (HB1.out.trans (hb2.mono HB1.out.size))
  have HB12 := hide hb2
  clear hO hb2 HGR HS3 HPK G1
  go_wp2_with fail
  refine HC.out.mono ?_
  rintro e w3 ⟨rfl, hb3⟩
  have B13 : Below w1.heap.size w1 w3 := HB12.out.trans (hb3.mono HB12.out.size)
  have HB3 := hide (HB2.out.trans (hb3.mono HB2.out.size))
  have G3 := HG1.out.below B13 HG1.out.lt
  have HG3 := hide G3
  have R3 := HR1.out.mono B13
  have T3 := HT1.out.mono B13
  have HR3 := hide R3
  have HT3 := hide T3
  clear hb3 HC HB12 B13 HR1 HT1 HG1 HB1 HB2
  by_cases hf : hF W H zs m = 0
  rotate_left
  · have HN := hide (Shortest_no W H a N c zs m w3 hf R3)
    obtain ⟨V, hV⟩ : ∃ V, hF W H zs m = V := ⟨_, rfl⟩
    rw [hV] at HN hf
    have hne : (V != 0) = true := by simpa using hf
    clear hV hf R3 T3
    go_wp2_with (first | (refine wpList_load_gd rfl (.tmp 3) rfl w.heap.size rfl G3 ?_) | fail)
    refine HN.out.mono ?_
    rintro e w4 ⟨rfl, hb4⟩
    have HB4 := hide (HB3.out.trans (hb4.mono HB3.out.size))
    clear hb4 HN G3
    go_wp2_with fail
    go_ret
    exact ⟨rfl, HB4.out⟩
  obtain ⟨hmay, -⟩ := hF_zero hf
  obtain ⟨n, rfl, rfl, hn1, hn10, hN, cb, co, rfl⟩ := hMay_board hmay R3
  have hzl : zs.length = n * n := by rw [hN]; exact R3.len
  have HNN := hide hN
  have hN100 : N ≤ 100 := by rw [← hN]; exact Nat.mul_le_mul hn10 hn10
  have hN1 : 1 ≤ N := by rw [← hN]; exact Nat.mul_le_mul hn1 hn1
  have HSY := hide (fun (Z : List Int) cb co bc W0 (hf : hF n n Z m = 0) (ht : Tab W0) (hrd : Rd W0 (some ⟨cb, co, none⟩) N bc Z) => Shortest_yes n cb co N bc m Z W0 hf ⟨hn1, hn10⟩ hN HM.out ht hrd)
  have HS1 := hide (HSY.out zs cb co c w3 hf T3 R3)
  have HJ1 := hide (fun W0 (ht : Tab W0) (hrd : Rd W0 (some ⟨cb, co, none⟩) N c zs) => Joined_yes n cb co N c zs W0 hmay ⟨hn1, hn10⟩ hN ht hrd)
  obtain ⟨f1, f2⟩ := short_facts (m := m) hn1 HM.out (sgn_of hmay hzl)
  have HSET := hide (fun k (hk : k < N) => may_set (k := k) ⟨hn1, hn10⟩ hzl hmay HM.out (by omega))
  have HSS := hide (fun k (hk : k < N) (hz : zs.getD k 0 = 0) (h1 : 1 ≤ shr n zs m) => shr_set (n := n) (k := k) (by rw [hzl]; omega) hz HM.out h1)
  have HSB : Hid (-1 ≤ shr n zs m ∧ shr n zs m ≤ 100) := hide (by
    rcases shr_spec n zs m with ⟨e, _⟩ | ⟨q, d, e, k1, k2, k3⟩
    · omega
    · obtain ⟨d', l1, l2⟩ := Wc.bound q d k1
      have := k3 q d' l2 k2
      omega)
  obtain ⟨V, hV⟩ : ∃ V, shr n zs m = V := ⟨_, rfl⟩
  rw [hV] at HS1 HSS f1 f2 HSB
  obtain ⟨J, hJ⟩ : ∃ J, jw n zs = J := ⟨_, rfl⟩
  rw [hJ] at f1 f2 HJ1
  have hVb := HSB.out
  obtain ⟨om, hom⟩ : ∃ om, 3 - m = om := ⟨_, rfl⟩
  rw [hom] at f2
  have homi : (3 : Int) - (m : Int) = (om : Int) := by omega
  have HPY := hide (fun W => picked_any y N W hy.1 hy.2 hN1 (by omega))
  have hpyl := pk_lt y N (by omega)
  obtain ⟨k, hk⟩ : ∃ k, pk y N = k := ⟨_, rfl⟩
  rw [hk] at HPY hpyl
  have HLN := hide R3.len
  have HCM : Hid (N ≤ c) := hide R3.cap
  have HIO := hide (fun W0 (hrd : Rd W0 (some ⟨cb, co, none⟩) N c zs) => intsK_own (some ⟨cb, co, none⟩) N c zs W0 hrd hr)
  clear hmay hf hzl hV hJ hom hk hN R3 T3
  obtain ⟨JN, hJN⟩ : ∃ JN, (jl n zs).length = JN := ⟨_, rfl⟩
  obtain ⟨JL, hJL⟩ : ∃ JL, jl n zs = JL := ⟨_, rfl⟩
  rw [hJN, hJL] at HJ1
  clear hJN hJL
  go_wp2_with (first | (refine wpList_load_gd rfl (.tmp 3) rfl w.heap.size rfl G3 ?_) | fail)
  refine HS1.out.mono ?_
  rintro e w4 ⟨rfl, hb4⟩
  have G4 := HG3.out.below hb4 HG3.out.lt
  have HG4 := hide G4
  have HR4 := hide (HR3.out.mono hb4)
  have HT4 := hide (HT3.out.mono hb4)
  have HB4 := hide (HB3.out.trans (hb4.mono HB3.out.size))
  have HJ4 := hide (HJ1.out w4 HT4.out HR4.out)
  clear hb4 G3 HS1 HJ1 HG3 HR3 HT3 HB3
  go_wp2_with (first | (refine wpList_load_gd rfl (.tmp 3) rfl w.heap.size rfl G4 ?_) | fail)
  refine HJ4.out.mono ?_
  rintro e w5 ⟨ja, jc, rfl, -, hb5⟩
  have G5 := HG4.out.below hb5 HG4.out.lt
  have HG5 := hide G5
  have HR5 := hide (HR4.out.mono hb5)
  have HT5 := hide (HT4.out.mono hb5)
  have HB5 := hide (HB4.out.trans (hb5.mono HB4.out.size))
  have g52 := G5.cells.2.2
  have cz := (HR5.out.cell hpyl).2
  clear hb5 G4 HJ4 HG4 HR4 HT4 HB4
  have hpyi : (k : Int) < (N : Int) := by omega
  by_cases hV0 : V = 0
  · have b1 : (V == 0) = true := by simp [hV0]
    have b2 : ((J : Int) == (m : Int)) = true := by rw [← f1]; exact b1
    have b3 : (V == -1) = false := by simp [hV0]
    have b4 : ((J : Int) == (om : Int)) = false := by rw [← f2]; exact b3
    have hlt : V < 1 := by omega
    clear f1 f2 hV0
    go_wp2_with fail
    refine (HPY.out _).mono ?_
    rintro e wx ⟨rfl, hwx⟩
    subst wx
    go_wp2_with fail
    go_ret
    exact ⟨rfl, HB5.out⟩
  by_cases hV1 : V = -1
  · have b1 : (V == 0) = false := by simpa using hV0
    have b2 : ((J : Int) == (m : Int)) = false := by rw [← f1]; exact b1
    have b3 : (V == -1) = true := by simp [hV1]
    have b4 : ((J : Int) == (om : Int)) = true := by rw [← f2]; exact b3
    have hlt : V < 1 := by omega
    clear f1 f2 hV0 hV1
    go_wp2_with fail
    refine (HPY.out _).mono ?_
    rintro e wx ⟨rfl, hwx⟩
    subst wx
    go_wp2_with fail
    go_ret
    exact ⟨rfl, HB5.out⟩
  have b1 : (V == 0) = false := by simpa using hV0
  have b2 : ((J : Int) == (m : Int)) = false := by rw [← f1]; exact b1
  have b3 : (V == -1) = false := by simpa using hV1
  have b4 : ((J : Int) == (om : Int)) = false := by rw [← f2]; exact b3
  have hlt : ¬ V < 1 := by omega
  have HV1 : Hid (1 ≤ V) := hide (by omega)
  clear f1 f2 hV0 hV1
  go_wp2_with fail
  refine (HPY.out _).mono ?_
  rintro e wx ⟨rfl, hwx⟩
  subst wx
  obtain ⟨zk, hzk⟩ : ∃ zk, zs.getD k 0 = zk := ⟨_, rfl⟩
  rw [hzk] at cz
  by_cases hz : zk = 0
  rotate_left
  · have hne : (zk != 0) = true := by simpa using hz
    clear hz hzk
    go_wp2_with fail
    go_ret
    exact ⟨rfl, HB5.out⟩
  have hne : (zk != 0) = false := by simp [hz]
  have HDONE := hide (HSS.out k hpyl (by rw [hzk]; exact hz) HV1.out)
  have HMS := hide (HSET.out k hpyl)
  have HKN : Hid (k < N) := hide hpyl
  clear hz hzk HSS HSET b1 b2 b3 b4
  go_upto_region 14 with fail
  clear g52 cz hne hlt
  have HSI : Hid (∀ W4, Below w5.heap.size w5 W4 → W4.cell? ⟨w.heap.size, 0, none⟩ = some (.int .i64 n) ∧ W4.cell? ⟨w.heap.size, 1, none⟩ = some (.int .i64 n) ∧ W4.cell? ⟨w.heap.size, 2, none⟩ = some (.slice (some ⟨cb, co, none⟩) N c)) := hide (fun W4 hb => (HG5.out.below hb HG5.out.lt).cells)
  refine wp_region_held (S := fun W4 => Below w5.heap.size w5 W4) (by kernel_rfl) ?_
  change wpAnyH _ _ _ _ _ _ _ _ (World.drew _)
  have SW : Below w5.heap.size w5 w5.drew := (Below.refl _ w5).drew
  refine wpAnyH_take (i := 0) (v := .pointer (some ⟨w.heap.size, 0, none⟩)) rfl (by kernel_rfl) (by kernel_rfl) (by kernel_rfl) (fun _ _ _ h => h) (Or.inl ⟨by rfl, ?_⟩) SW ?_
  · intro W4 hW4
    obtain ⟨x0, x1, x2⟩ := HSI.out W4 hW4
    go_simp <;> first | done | rfl | (rw [IntKind.wrap_i64]; omega) | omega
  go_simp
  refine wpAnyH_take (i := 1) (v := .int .i64 n) rfl (by kernel_rfl) (by kernel_rfl) (by kernel_rfl) (fun _ _ _ h => h) (Or.inl ⟨by rfl, ?_⟩) SW ?_
  · intro W4 hW4
    obtain ⟨x0, x1, x2⟩ := HSI.out W4 hW4
    go_simp <;> first | done | rfl | (rw [IntKind.wrap_i64]; omega) | omega
  go_simp
  refine wpAnyH_take (i := 2) (v := .pointer (some ⟨w.heap.size, 1, none⟩)) rfl (by kernel_rfl) (by kernel_rfl) (by kernel_rfl) (fun _ _ _ h => h) (Or.inl ⟨by rfl, ?_⟩) SW ?_
  · intro W4 hW4
    obtain ⟨x0, x1, x2⟩ := HSI.out W4 hW4
    go_simp <;> first | done | rfl | (rw [IntKind.wrap_i64]; omega) | omega
  go_simp
  refine wpAnyH_take (i := 3) (v := .int .i64 n) rfl (by kernel_rfl) (by kernel_rfl) (by kernel_rfl) (fun _ _ _ h => h) (Or.inl ⟨by rfl, ?_⟩) SW ?_
  · intro W4 hW4
    obtain ⟨x0, x1, x2⟩ := HSI.out W4 hW4
    go_simp <;> first | done | rfl | (rw [IntKind.wrap_i64]; omega) | omega
  go_simp
  refine wpAnyH_take (i := 4) (v := .pointer (some ⟨w.heap.size, 2, none⟩)) rfl (by kernel_rfl) (by kernel_rfl) (by kernel_rfl) (fun _ _ _ h => h) (Or.inl ⟨by rfl, ?_⟩) SW ?_
  · intro W4 hW4
    obtain ⟨x0, x1, x2⟩ := HSI.out W4 hW4
    go_simp <;> first | done | rfl | (rw [IntKind.wrap_i64]; omega) | omega
  go_simp
  refine wpAnyH_take (i := 5) (v := .slice (some ⟨cb, co, none⟩) N c) rfl (by kernel_rfl) (by kernel_rfl) (by kernel_rfl) (fun _ _ _ h => h) (Or.inl ⟨by rfl, ?_⟩) SW ?_
  · intro W4 hW4
    obtain ⟨x0, x1, x2⟩ := HSI.out W4 hW4
    go_simp <;> first | done | rfl | (rw [IntKind.wrap_i64]; omega) | omega
  go_simp
  refine wpAnyH_ready (rs := [6, 8]) (by kernel_rfl) (by simp) ?_
  refine AllReadyH.cons rfl (fun K1 hK1 => ?_) (AllReadyH.cons rfl (fun K1 hK1 => ?_) AllReadyH.nil)
  · go_simp
    refine (HIO.out _ (HR5.out.mono SW)).mono ?_
    rintro e w6 ⟨ia, ic, rfl, hO6, hb6⟩
    have SW6 : Below w5.heap.size w5 w6 := SW.trans (hb6.mono (by simp))
    refine hK1.out _ _ SW6 (fun SW => ?_)
    have hsz6 : w5.heap.size ≤ w6.heap.size := SW6.size
    clear hK1 K1 hb6 SW6
    obtain ⟨ig, c7, hv, -⟩ := own_some hO6 (by omega)
    simp only [Value.slice.injEq] at hv
    obtain ⟨rfl, -, rfl⟩ := hv
    refine wpAnyH_take (i := 7) (v := .agg (gdA n n (some ⟨ig, 0, none⟩) N ic)) rfl (by kernel_rfl) (by kernel_rfl) (by kernel_rfl) (fun _ _ _ h => h) (Or.inl ⟨by rfl, ?_⟩) SW ?_
    · intro W4 hW4
      go_simp <;> first | done | rfl | (rw [IntKind.wrap_i64]; omega) | omega
    go_simp
    refine wpAnyH_ready (rs := [8]) (by kernel_rfl) (by simp) ?_
    refine AllReadyH.cons rfl (fun K1 hK1 => ?_) AllReadyH.nil
    go_simp
    have SW8 : Below w5.heap.size w5 (w6.alloc (.cells (gdA 0 0 none 0 0) 24)) := SW.alloc SW.size _
    refine hK1.out _ _ SW8 (fun SW => ?_)
    clear hK1 K1
    have GB : Gd (w6.alloc (.cells (gdA 0 0 none 0 0) 24)) w6.heap.size 0 0 none 0 0 := Gd.new _ _ _ _ _ _
    have hO6 := hO6.alloc (.cells (gdA 0 0 none 0 0) 24)
    have hbx : w5.heap.size ≤ w6.heap.size := hsz6
    obtain ⟨bx, hbxe⟩ : ∃ bx, w6.heap.size = bx := ⟨_, rfl⟩
    rw [hbxe] at GB hbx ⊢
    clear SW8 hbxe
    generalize w6.alloc (.cells (gdA 0 0 none 0 0) 24) = w8 at *
    have hO6 : w8.ownsRow w5.heap.size 3 1 (.slice (some ⟨ig, 0, none⟩) N ic) N (zs.map (Value.int .i64)) := hO6
    refine wpAnyH_ready (rs := [9]) (by kernel_rfl) (by simp) ?_
    refine AllReadyH.cons rfl (fun K1 hK1 => ?_) AllReadyH.nil
    refine wp_store_gd (.tmp 15) (.tmp 88) rfl bx rfl rfl GB ?_
    intro w9 G9 k9
    have hne9 : ig ≠ bx := by
      rintro rfl
      obtain ⟨cur, hc⟩ := own_block hO6 rfl
      have := (show _ = _ from GB)
      rw [hc] at this
      simp at this
    have O9 := own_blk hO6 (fun q hq => k9.block q (hO6.lt q hq).2 (fun e => by
      simp only [Value.ownBlock, Option.some.injEq] at hq
      omega))
    have B9 : Below w5.heap.size w5 w9 := SW.trans (k9.below SW.size (fun q hq e => by omega))
    refine hK1.out _ _ B9 (fun _ => ?_)
    clear hK1 K1
    refine wpAnyH_done (by kernel_rfl) ?_ _
    have HG9 := hide G9
    have HO9 := hide O9
    have HB9 := hide (HB5.out.trans (B9.mono HB5.out.size))
    have HT9 := hide (HT5.out.mono B9)
    have HIG : Hid (w.heap.size ≤ ig ∧ ig ≠ bx) := hide ⟨by have := HB5.out.size; have := (O9.lt ig rfl).1; omega, hne9⟩
    have g92 := G9.cells.2.2
    have cz9 : w9.cell? ⟨ig, k, none⟩ = some (.int .i64 (zs.getD k 0)) := by
      rw [O9.cellAt k (by have := HKN.out; omega)]
      have hl : k < zs.length := by have := HKN.out; have := HLN.out; omega
      simp [List.getD, hl]
    have fz9 := own_frozen (j := k) O9
    have O10 := own_stored (j := k) (m : Int) O9
    have kk : Keeps (fun q => q = ig) w9 (w9.setCell ⟨ig, k, none⟩ (.int .i64 m)) := Keeps.set1 _ _ _ _
    have G10 := G9.keeps kk (fun e => hne9 e.symm)
    have HB10 : Hid (Below w.heap.size w (w9.setCell ⟨ig, k, none⟩ (.int .i64 m))) := hide (HB9.out.trans (kk.below HB9.out.size (fun q hq e => by have := HIG.out; omega)))
    have HT10 : Hid (Tab (w9.setCell ⟨ig, k, none⟩ (.int .i64 m))) := hide (HT9.out.keeps kk (fun e => by have := HIG.out; have := HTL.out; omega))
    have HC := hide (HSY.out (zs.set k m) ig 0 ic (w9.setCell ⟨ig, k, none⟩ (.int .i64 m)) (hF_ok HMS.out HM.out) HT10.out (Rd.of_own O10))
    clear G9 k9 O9 B9 O10 kk hne9 hO6 GB SW HT10 HT9 HG9 HO9
    go_upto_region 16 with fail
    clear g92 cz9 fz9
    generalize w9.setCell ⟨ig, k, none⟩ (.int .i64 m) = w10 at *
    go_wp2_with (first | (refine wpList_load_gd rfl (.tmp 15) rfl bx rfl G10 ?_) | fail)
    refine HC.out.mono ?_
    rintro e w11 ⟨rfl, hb11⟩
    have HB11 := hide (HB10.out.trans (hb11.mono HB10.out.size))
    clear hb11 HC G10
    obtain ⟨U, hU⟩ : ∃ U, shr n (zs.set k m) m = U := ⟨_, rfl⟩
    rw [hU] at HDONE ⊢
    clear hU
    rcases HDONE.out with hd | hd
    · have hb : (U == V) = true := by simp [hd]
      clear hd HDONE
      go_wp2_with fail
      go_ret
      exact ⟨rfl, HB11.out⟩
    · have hb : (U == V) = false := by simp [hd]; omega
      have hb2 : (U == V - 1) = true := by simp [hd]
      clear hd HDONE
      go_wp2_with fail
      go_ret
      exact ⟨rfl, HB11.out⟩
  · go_simp
    have SW8 : Below w5.heap.size w5 (w5.alloc (.cells (gdA 0 0 none 0 0) 24)).drew := ((Below.refl _ w5).alloc (Nat.le_refl _) _).drew
    refine hK1.out _ _ SW8 (fun SW => ?_)
    clear hK1 K1
    have GB0 : Gd (w5.alloc (.cells (gdA 0 0 none 0 0) 24)).drew w5.heap.size 0 0 none 0 0 := Gd.new w5 0 0 none 0 0
    clear SW8
    generalize (w5.alloc (.cells (gdA 0 0 none 0 0) 24)).drew = w8 at *
    refine wpAnyH_ready (rs := [6]) (by kernel_rfl) (by simp) ?_
    refine AllReadyH.cons rfl (fun K1 hK1 => ?_) AllReadyH.nil
    go_simp
    refine (HIO.out _ (HR5.out.mono SW)).mono ?_
    rintro e w6 ⟨ia, ic, rfl, hO6, hb6⟩
    have hO6 := own_base hO6 SW.size
    have SW6 : Below w5.heap.size w5 w6 := SW.trans (hb6.mono SW.size)
    have GB := GB0.below hb6 GB0.lt
    refine hK1.out _ _ SW6 (fun SW => ?_)
    clear hK1 K1 hb6 SW6 GB0
    obtain ⟨ig, c7, hv, -⟩ := own_some hO6 (by omega)
    simp only [Value.slice.injEq] at hv
    obtain ⟨rfl, -, rfl⟩ := hv
    refine wpAnyH_take (i := 7) (v := .agg (gdA n n (some ⟨ig, 0, none⟩) N ic)) rfl (by kernel_rfl) (by kernel_rfl) (by kernel_rfl) (fun _ _ _ h => h) (Or.inl ⟨by rfl, ?_⟩) SW ?_
    · intro W4 hW4
      go_simp <;> first | done | rfl | (rw [IntKind.wrap_i64]; omega) | omega
    go_simp
    refine wpAnyH_ready (rs := [9]) (by kernel_rfl) (by simp) ?_
    refine AllReadyH.cons rfl (fun K1 hK1 => ?_) AllReadyH.nil
    refine wp_store_gd (.tmp 15) (.tmp 88) rfl w5.heap.size rfl rfl GB ?_
    intro w9 G9 k9
    have hne9 : ig ≠ w5.heap.size := by
      rintro rfl
      obtain ⟨cur, hc⟩ := own_block hO6 rfl
      have := (show _ = _ from GB)
      rw [hc] at this
      simp at this
    have O9 := own_blk hO6 (fun q hq => k9.block q (hO6.lt q hq).2 (fun e => by
      simp only [Value.ownBlock, Option.some.injEq] at hq
      omega))
    have B9 : Below w5.heap.size w5 w9 := SW.trans (k9.below SW.size (fun q hq e => by omega))
    refine hK1.out _ _ B9 (fun _ => ?_)
    clear hK1 K1
    refine wpAnyH_done (by kernel_rfl) ?_ _
    have HG9 := hide G9
    have HO9 := hide O9
    have HB9 := hide (HB5.out.trans (B9.mono HB5.out.size))
    have HT9 := hide (HT5.out.mono B9)
    have HIG : Hid (w.heap.size ≤ ig ∧ ig ≠ w5.heap.size) := hide ⟨by have := HB5.out.size; have := (O9.lt ig rfl).1; omega, hne9⟩
    have g92 := G9.cells.2.2
    have cz9 : w9.cell? ⟨ig, k, none⟩ = some (.int .i64 (zs.getD k 0)) := by
      rw [O9.cellAt k (by have := HKN.out; omega)]
      have hl : k < zs.length := by have := HKN.out; have := HLN.out; omega
      simp [List.getD, hl]
    have fz9 := own_frozen (j := k) O9
    have O10 := own_stored (j := k) (m : Int) O9
    have kk : Keeps (fun q => q = ig) w9 (w9.setCell ⟨ig, k, none⟩ (.int .i64 m)) := Keeps.set1 _ _ _ _
    have G10 := G9.keeps kk (fun e => hne9 e.symm)
    have HB10 : Hid (Below w.heap.size w (w9.setCell ⟨ig, k, none⟩ (.int .i64 m))) := hide (HB9.out.trans (kk.below HB9.out.size (fun q hq e => by have := HIG.out; omega)))
    have HT10 : Hid (Tab (w9.setCell ⟨ig, k, none⟩ (.int .i64 m))) := hide (HT9.out.keeps kk (fun e => by have := HIG.out; have := HTL.out; omega))
    have HC := hide (HSY.out (zs.set k m) ig 0 ic (w9.setCell ⟨ig, k, none⟩ (.int .i64 m)) (hF_ok HMS.out HM.out) HT10.out (Rd.of_own O10))
    clear G9 k9 O9 B9 O10 kk hne9 hO6 GB SW HT10 HT9 HG9 HO9
    go_upto_region 16 with fail
    clear g92 cz9 fz9
    generalize w9.setCell ⟨ig, k, none⟩ (.int .i64 m) = w10 at *
    go_wp2_with (first | (refine wpList_load_gd rfl (.tmp 15) rfl w5.heap.size rfl G10 ?_) | fail)
    refine HC.out.mono ?_
    rintro e w11 ⟨rfl, hb11⟩
    have HB11 := hide (HB10.out.trans (hb11.mono HB10.out.size))
    clear hb11 HC G10
    obtain ⟨U, hU⟩ : ∃ U, shr n (zs.set k m) m = U := ⟨_, rfl⟩
    rw [hU] at HDONE ⊢
    clear hU
    rcases HDONE.out with hd | hd
    · have hb : (U == V) = true := by simp [hd]
      clear hd HDONE
      go_wp2_with fail
      go_ret
      exact ⟨rfl, HB11.out⟩
    · have hb : (U == V) = false := by simp [hd]; omega
      have hb2 : (U == V - 1) = true := by simp [hd]
      clear hd HDONE
      go_wp2_with fail
      go_ret
      exact ⟨rfl, HB11.out⟩

end Go.Proofs.YtldgikinmmkhiaaDoor
