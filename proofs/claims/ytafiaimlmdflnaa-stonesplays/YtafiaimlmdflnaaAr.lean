/-
  How many places are nobody's and each player's. No conditions beyond those that each theorem bears.
-/
import Derived.Test.YtafiaimlmdflnaaOw
import Derived.Test.YtafiaimlmdflnaaFc
namespace Go.Proofs.Ytafiaimlmdflnaa
open Go.RowKit Go.Shelf

/-- One of three numbers grows. -/
def bump (A : List Nat) (k x : Nat) : List Nat := A.set k (A.getD k 0 + x)
theorem bump_len (A : List Nat) (k x : Nat) : (bump A k x).length = A.length := by simp [bump]
theorem bump_sum {A : List Nat} {k : Nat} (x : Nat) (h : k < A.length) : (bump A k x).sum = A.sum + x := by
  unfold bump
  induction A generalizing k with
  | nil => simp at h
  | cons a A ih =>
    cases k with
    | zero => simp [List.getD]; omega
    | succ k =>
      have := ih (k := k) (by simpa using h)
      simp only [List.set_cons_succ, List.sum_cons, List.getD_cons_succ]
      omega
theorem le_sum {A : List Nat} {k : Nat} : A.getD k 0 ≤ A.sum := by
  induction A generalizing k with
  | nil => simp [List.getD]
  | cons a A ih =>
    cases k with
    | zero => simp [List.getD]
    | succ k => have := ih (k := k); simp only [List.getD_cons_succ, List.sum_cons]; omega

/-- Stones counted, among the first places. -/
def stc (Z : List Int) : Nat → List Nat
  | 0 => [0, 0, 0]
  | j + 1 => if Z.getD j 0 = 0 then stc Z j else bump (stc Z j) (Z.getD j 0).toNat 1
theorem stc_len (Z : List Int) (j : Nat) : (stc Z j).length = 3 := by
  induction j with
  | zero => rfl
  | succ j ih => unfold stc; split; exact ih; rw [bump_len]; exact ih
/-- How many of the first places are not empty. -/
def full (Z : List Int) (j : Nat) : Nat := ((List.range j).filter fun q => decide (Z.getD q 0 ≠ 0)).length
theorem full_succ (Z : List Int) (j : Nat) : full Z (j + 1) = full Z j + (if Z.getD j 0 = 0 then 0 else 1) := by
  unfold full
  rw [List.range_succ, List.filter_append, List.length_append]
  congr 1
  by_cases h : Z.getD j 0 = 0
  · rw [if_pos h, List.filter_cons, if_neg (by simpa using h)]; rfl
  · rw [if_neg h, List.filter_cons, if_pos (by simpa using h)]; rfl
theorem stc_sum (Z : List Int) (hz : ∀ q, 0 ≤ Z.getD q 0 ∧ Z.getD q 0 ≤ 2) (j : Nat) : (stc Z j).sum = full Z j := by
  induction j with
  | zero => rfl
  | succ j ih =>
    rw [full_succ, stc]
    have := hz j
    by_cases h : Z.getD j 0 = 0
    · rw [if_pos h, if_pos h, ih]; rfl
    · rw [if_neg h, if_neg h, bump_sum 1 (by rw [stc_len]; omega), ih]
theorem full_le (Z : List Int) (j : Nat) : full Z j ≤ j := by
  unfold full
  exact Nat.le_trans (List.length_filter_le _ _) (by simp)

/-- Regions told, one by one. -/
def art (W H N : Nat) (Z : List Int) (s : List (List Nat)) : List Nat := s.foldl (fun A L => bump A (ow W H Z L) L.length) (stc Z N)
theorem art_nil (W H N : Nat) (Z : List Int) : art W H N Z [] = stc Z N := rfl
theorem art_snoc (W H N : Nat) (Z : List Int) (s : List (List Nat)) (L : List Nat) : art W H N Z (s ++ [L]) = bump (art W H N Z s) (ow W H Z L) L.length := by simp [art, List.foldl_append]
theorem artF (W H : Nat) (Z : List Int) (s : List (List Nat)) : ∀ A : List Nat, A.length = 3 → (s.foldl (fun A L => bump A (ow W H Z L) L.length) A).length = 3 ∧ (s.foldl (fun A L => bump A (ow W H Z L) L.length) A).sum = A.sum + s.flatten.length := by
  induction s with
  | nil => exact fun A hA => ⟨hA, by simp⟩
  | cons L s ih =>
    intro A hA
    obtain ⟨h1, h2⟩ := ih (bump A (ow W H Z L) L.length) (by rw [bump_len]; exact hA)
    refine ⟨h1, ?_⟩
    rw [List.foldl_cons, h2, bump_sum _ (by rw [hA]; exact ow_lt _ _ _ _), List.flatten_cons, List.length_append]
    omega
theorem art_len (W H N : Nat) (Z : List Int) (s : List (List Nat)) : (art W H N Z s).length = 3 := (artF W H Z s _ (stc_len Z N)).1
theorem art_sum (W H N : Nat) (Z : List Int) (s : List (List Nat)) (hz : ∀ q, 0 ≤ Z.getD q 0 ∧ Z.getD q 0 ≤ 2) : (art W H N Z s).sum = full Z N + s.flatten.length := by
  have := (artF W H Z s _ (stc_len Z N)).2
  rw [stc_sum Z hz] at this
  exact this

theorem filter_parts (p : Nat → Bool) (l : List Nat) : (l.filter p).length + (l.filter fun q => !p q).length = l.length := by
  induction l with
  | nil => rfl
  | cons a l ih =>
    rw [List.filter_cons, List.filter_cons]
    cases h : p a with
    | true => simp; omega
    | false => simp; omega

/-- The empty places, in their regions. -/
theorem empties_len {W H N : Nat} {Z : List Int} (hN : W * H = N) : full Z N + (rgs N (nb4 W H) fun q => Z.getD q 0 = 0).flatten.length = N := by
  subst hN
  have h1 : (rgs (W * H) (nb4 W H) fun q => Z.getD q 0 = 0).flatten.length = ((List.range (W * H)).filter fun q => !decide (Z.getD q 0 ≠ 0)).length := by
    refine List.Perm.length_eq ((List.perm_ext_iff_of_nodup (flat_nodup (fun _ _ hp hq => nb4_symm hp hq) _) (List.Pairwise.sublist List.filter_sublist List.nodup_range)).2 fun q => ?_)
    rw [List.mem_filter, List.mem_range]
    constructor
    · intro h
      obtain ⟨p, _, _, h3⟩ := mem_flat.1 h
      exact ⟨h3.lt, by simpa using h3.right⟩
    · rintro ⟨h2, h3⟩
      obtain ⟨p, hp, hmin⟩ := least_at ⟨q, (Wk.refl h2 (by simpa using h3) : Wk (W * H) (nb4 W H) (fun q => Z.getD q 0 = 0) q q)⟩
      exact mem_flat.2 ⟨p, hp.lt, ⟨hp.right, fun r hr => hmin r (hp.trans hr)⟩, hp.symm (fun _ _ hp hq => nb4_symm hp hq)⟩
  rw [h1]
  unfold full
  have := filter_parts (fun q => decide (Z.getD q 0 ≠ 0)) (List.range (W * H))
  rw [List.length_range] at this
  exact this

theorem size72 : (Try.prog.info? 72).map (·.size) = some 3 := by kernel_rfl

attribute [local irreducible] D4 spr rgs rgsU ow stc bump art full
attribute [local go_sem] Oper.semAt_some wide_fn wide_fn0 wide_depth

theorem wpList_store_a3 {ops : Array Oper} {rest : List Oper} {o : Oper} {a : Act} {w : World} {Q : Exit → Act → World → Prop} (hgd : o.guard = none) (x y : Operand) (ho : o.op = .store 72 x y)
    (b : Nat) {L L' : List Int} (hL : L.length = 3) (hL' : L'.length = 3) (hx : a.eval x = .pointer (some ⟨b, 0, none⟩)) (hy : a.eval y = .agg (ivs L).toArray) (hb : Blk w b 72 L')
    (h : ∀ w', Blk w' b 72 L → Keeps (fun k => k = b) w w' → wpList Try.prog ops Q rest (a.put o.dst undef) w') : wpList Try.prog ops Q (o :: rest) a w := by
  refine wpList_plain hgd fun _ hK => ?_
  have hb' : w.heap[b]? = _ := hb
  refine wp_store_row 72 x y ho b (ivs L).toArray hx hy 72 _ hb' (by rw [List.size_toArray, ivs_length, hL]; exact size72) (by simp [ivs_length, hL, hL']) (ivs_one L) ?_
  refine hK _ _ (h _ ?_ ?_)
  · simp [Blk, World.setRow, Array.getElem?_modify, hb']
  · exact ⟨rfl, rfl, rfl, by simp [World.setRow], fun k _ hk => by simp [World.setRow, Array.getElem?_modify, show ¬ b = k from fun e => hk e.symm]⟩

theorem results_a3 {fn : Func} {t : Tmp} (h : fn.results = #[.cell t 72]) (tmps : Array Value) (w : World) (b : Nat) (hb : tmps.getD t undef = .pointer (some ⟨b, 0, none⟩)) {L : List Int} (hL : L.length = 3) (hr : Blk w b 72 L) :
    (results fn tmps).run Try.prog w = .ok (.agg (ivs L).toArray) w :=
  results_cell_row h tmps w b 72 _ (0, 0) _ hb hr Try.underlying72 rfl (by rw [List.size_toArray, ivs_length, hL]; exact size72)


/-- What is held while regions are told: b1: the board; b3: the three numbers; hb, sb: what the question has captured. -/
structure ArI (b1 b3 hb sb W H cb co N bc : Nat) (Z : List Int) (w w0 : World) (s : List (List Nat)) (V : World) : Prop where
  bd : Hb V b1 W H (some ⟨cb, co, none⟩) N bc
  hs : HsR hb sb W H cb co N bc 0 Z V
  no : Blk V b3 72 (toI (art W H N Z s))
  kp : Keeps (fun k => k = b3) w0 V

set_option maxRecDepth 100000 in
set_option maxHeartbeats 16000000 in
theorem areas_any (W H N bc cb co : Nat) (Z : List Int) (w : World) (hW : 1 ≤ W ∧ W ≤ 10) (hH : 1 ≤ H ∧ H ≤ 10) (hN : W * H = N) (hz : ∀ q, 0 ≤ Z.getD q 0 ∧ Z.getD q 0 ≤ 2) (hR : Rd w (some ⟨cb, co, none⟩) N bc Z) :
    Calls Try.prog 45 #[.agg (gdA W H (some ⟨cb, co, none⟩) N bc)] w fun e w' => e = .returned (.agg (ivs (toI (art W H N Z (rgs N (nb4 W H) fun q => Z.getD q 0 = 0)))).toArray) ∧ Below w.heap.size w w' := by
  have hN100 : N ≤ 100 := by rw [← hN]; exact Nat.mul_le_mul hW.2 hH.2
  have hN1 : 0 < N := by rw [← hN]; exact Nat.mul_pos (by omega) (by omega)
  have hcap := hR.cap
  have hmx : bc ≤ 9223372036854775807 := by have := hR.max; unfold maxLen at this; omega
  have HCB := hide (hR.blt hN1)
  have HART : Hid (∀ s, s <+: (rgs N (nb4 W H) fun q => Z.getD q 0 = 0) → (art W H N Z s).sum ≤ 100) := hide (fun s hs => by
    rw [art_sum W H N Z s hz]
    have h1 := empties_len (W := W) (H := H) (N := N) (Z := Z) hN
    have h2 := (flat_pre hs).length_le
    omega)
  have HAL := hide (art_len W H N Z)
  have HSL := hide (stc_len Z)
  have HSS : Hid (∀ j, j ≤ N → (stc Z j).sum ≤ 100) := hide (fun j hj => by rw [stc_sum Z hz]; have := full_le Z j; omega)
  obtain ⟨w1, hw1⟩ : ∃ w1, ((w.alloc (.cells (gdA W H (some ⟨cb, co, none⟩) N bc) 54)).alloc (.cells (ivs [0, 0, 0]).toArray 72)).alloc (.cells (ivs [0, 0, 0]).toArray 72) = w1 := ⟨_, rfl⟩
  have B1 : Below w.heap.size w w1 := by rw [← hw1]; exact (((Below.refl _ _).alloc (Nat.le_refl _) _).alloc (by simp) _).alloc (by simp; omega) _
  have s1 : w1.heap.size = w.heap.size + 3 := by rw [← hw1]; simp
  have H1 : Hb w1 w.heap.size W H (some ⟨cb, co, none⟩) N bc := by rw [← hw1]; exact ((Hb.new w W H _ N bc).old _).old _
  have K2 : Blk w1 (w.heap.size + 1) 72 [0, 0, 0] := by
    rw [← hw1]
    have := Blk.new (w.alloc (.cells (gdA W H (some ⟨cb, co, none⟩) N bc) 54)) 72 [0, 0, 0] _ rfl
    rw [World.size_alloc] at this
    exact this.old _
  have K3 : Blk w1 (w.heap.size + 2) 72 (toI (stc Z 0)) := by
    rw [← hw1]
    have := Blk.new ((w.alloc (.cells (gdA W H (some ⟨cb, co, none⟩) N bc) 54)).alloc (.cells (ivs [0, 0, 0]).toArray 72)) 72 [0, 0, 0] _ rfl
    rw [World.size_alloc, World.size_alloc] at this
    rw [show stc Z 0 = [0, 0, 0] by rw [stc]]
    exact this
  have HB1 := hide B1
  have HS1 := hide s1
  have HH1 := hide H1
  have HK2 := hide K2
  have HK3 := hide K3
  have HR1 := hide (hR.mono B1)
  obtain ⟨-, -, g2⟩ := H1.cells
  clear B1 s1 H1 K2 K3 hR
  refine (callsIn_wide (n := 3)).1 ?_
  refine callsIn_of_wp_marks Try.func45 rfl trivial ?_ rfl
  simp only [Try.ntmps45, List.size_toArray, List.length_cons, List.length_nil, Nat.reduceAdd, Nat.reduceSub, Array.replicate_succ, Array.replicate_zero, List.push_toArray, List.append_toArray, List.nil_append, List.cons_append]
  refine wpIn_wide.2 ?_
  go_upto_region 2 with fail
  first
    | rw [show ((w.alloc (.cells (gdA W H (some ⟨cb, co, none⟩) N bc) 54)).alloc (.cells Try.zeroCells72 72)).alloc (.cells Try.zeroCells72 72) = w1 from hw1]
    | rw [show ((w.alloc (.cells (gdA W H (some ⟨cb, co, none⟩) N bc) 54)).alloc (.cells #[.int .i64 0, .int .i64 0, .int .i64 0] 72)).alloc (.cells #[.int .i64 0, .int .i64 0, .int .i64 0] 72) = w1 from hw1]
    | skip
  clear hw1
  go_wp2_with fail
  clear g2
  go_loopw [11] (fun v wr => ∃ j : Nat, v = .int .i64 j ∧ j ≤ N ∧ Hid (Blk wr (w.heap.size + 2) 72 (toI (stc Z j))) ∧ Hid (Keeps (fun k => k = w.heap.size + 2) w1 wr)) (fun v _ => N - (intOf v).toNat)
  case atStart => exact ⟨0, rfl, by omega, HK3, hide (Keeps.refl _ _)⟩
  case round =>
    obtain ⟨j, rfl, hjN, hBk, hK⟩ := hrel
    have z1 := HS1.out
    have z2 := HCB.out
    by_cases hj : j < N
    · have hj' : (j : Int) < (N : Int) := by omega
      have cz := ((HR1.out.keeps hK.out (fun b off e => by
        simp only [Option.some.injEq, Addr.mk.injEq] at e
        omega)).cell hj).2
      obtain ⟨hz0, hz2⟩ := hz j
      have HSU : Hid (stc Z (j + 1) = if Z.getD j 0 = 0 then stc Z j else bump (stc Z j) (Z.getD j 0).toNat 1) := hide (by rw [stc])
      obtain ⟨z, hzz⟩ : ∃ z, Z.getD j 0 = z := ⟨_, rfl⟩
      rw [hzz] at cz HSU hz0 hz2
      clear hzz
      by_cases h0 : z = 0
      · subst h0
        rw [if_pos rfl] at HSU
        clear z1 z2
        go_wp2_with fail
        exact ⟨⟨j + 1, rfl, by omega, hide (by rw [HSU.out]; exact hBk.out), hK⟩, by simp only [intOf]; omega⟩
      · rw [if_neg h0] at HSU
        obtain ⟨zn, rfl⟩ := Int.eq_ofNat_of_zero_le hz0
        rw [Int.toNat_natCast] at HSU
        have hne : ((zn : Int) != 0) = true := by simpa using h0
        have hzn : zn < 3 := by omega
        have hzn' : (zn : Int) < 3 := by omega
        have cA := hBk.out.cell (i := zn) (by rw [toI_len, HSL.out]; exact hzn)
        rw [toI_getD (by rw [HSL.out]; exact hzn)] at cA
        have fA := hBk.out.frozen zn
        have hAb : (stc Z j).getD zn 0 ≤ 100 := Nat.le_trans le_sum (HSS.out j hjN)
        have HBS : Hid (Blk (wr.setCell ⟨w.heap.size + 2, zn, none⟩ (.int .i64 (((stc Z j).getD zn 0 : Nat) + 1 : Int))) (w.heap.size + 2) 72 (toI (stc Z (j + 1)))) := hide (by
          have := hBk.out.set zn (((stc Z j).getD zn 0 : Nat) + 1 : Int)
          rw [HSU.out, bump]
          rw [show toI ((stc Z j).set zn ((stc Z j).getD zn 0 + 1)) = (toI (stc Z j)).set zn (((stc Z j).getD zn 0 : Nat) + 1 : Int) by unfold toI; rw [List.map_set]; simp]
          exact this)
        obtain ⟨av, hav⟩ : ∃ av, (stc Z j).getD zn 0 = av := ⟨_, rfl⟩
        rw [hav] at cA hAb HBS
        have HKS : Hid (Keeps (fun k => k = w.heap.size + 2) w1 (wr.setCell ⟨w.heap.size + 2, zn, none⟩ (.int .i64 ((av : Nat) + 1 : Int)))) := hide (hK.out.trans (Keeps.set1 _ _ _ _))
        clear hav hBk hK z1 z2 h0
        go_wp2_with fail
        exact ⟨⟨j + 1, rfl, by omega, HBS, HKS⟩, by simp only [intOf]; omega⟩
    · obtain rfl : j = N := by omega
      obtain ⟨wo, rfl⟩ : ∃ wo, wo = wr := ⟨_, rfl⟩
      have HHo := hide (HH1.out.keeps hK.out (by omega))
      have HRo := hide (HR1.out.keeps hK.out (fun b off e => by
        simp only [Option.some.injEq, Addr.mk.injEq] at e
        omega))
      have HKo := hide (HK2.out.keeps hK.out (by omega))
      have HBo : Hid (Below w.heap.size w wo) := hide (HB1.out.trans (hK.out.below HB1.out.size (fun k hk e => by omega)))
      have HSo : Hid (w.heap.size + 3 ≤ wo.heap.size ∧ cb < w.heap.size) := hide ⟨by have := hK.out.size; omega, z2⟩
      have HBk := hide hBk.out
      have HGR : Hid (∀ W4, Below wo.heap.size wo W4 → W4.rangeAt w.heap.size 0 [.int .i64 W, .int .i64 H, .slice (some ⟨cb, co, none⟩) j bc]) := hide (fun W4 hb => (HHo.out.below hb HHo.out.lt).range)
      clear z1 z2 hBk hK HH1 HR1 HK2 HB1 HS1 HK3
      go_upto_region 8 with fail
      refine wp_calm ?_
      refine wp_region_held (S := fun W4 => Below wo.heap.size wo W4) (by kernel_rfl) ?_
      change wpAnyH _ _ _ _ _ _ _ _ (World.drew _)
      have SW : Below wo.heap.size wo wo.drew := (Below.refl _ wo).drew
      refine wpAnyH_take (i := 0) (v := .agg (gdA W H (some ⟨cb, co, none⟩) j bc)) rfl (by kernel_rfl) (by kernel_rfl) (by kernel_rfl) (fun _ _ _ h => h) (yieldsIf_load_mid (by rfl) 54 _ rfl w.heap.size 0 (by rfl) [.int .i64 W, .int .i64 H, .slice (some ⟨cb, co, none⟩) j bc] _ (fun W4 hW4 => HGR.out W4 hW4) Try.underlying54 rfl size54) SW ?_
      go_simp
      refine wpAnyH_take (i := 1) (v := .agg (gdA W H (some ⟨cb, co, none⟩) j bc)) rfl (by kernel_rfl) (by kernel_rfl) (by kernel_rfl) (fun _ _ _ h => h) (yieldsIf_load_mid (by rfl) 54 _ rfl w.heap.size 0 (by rfl) [.int .i64 W, .int .i64 H, .slice (some ⟨cb, co, none⟩) j bc] _ (fun W4 hW4 => HGR.out W4 hW4) Try.underlying54 rfl size54) SW ?_
      go_simp
      refine wpAnyH_ready (rs := [2]) (by kernel_rfl) (by simp) ?_
      refine AllReadyH.cons rfl (fun K1 hK1 => ?_) AllReadyH.nil
      go_simp
      refine (has_any W H _ j bc 0 _).mono ?_
      rintro e w2 ⟨rfl, hw2⟩
      have B2 : Below wo.heap.size wo w2 := by rw [hw2]; exact (SW.alloc SW.size _).alloc (Nat.le_trans SW.size (by simp)) _
      have R2 := hide (HsR.new W H cb co j bc 0 Z wo.drew (HRo.out.mono SW))
      rw [← hw2] at R2
      have s2 : Hid (w2.heap.size = wo.heap.size + 2) := hide (by rw [hw2]; simp)
      refine hK1.out _ _ B2 (fun SW => ?_)
      clear hw2 hK1 K1
      refine wpAnyH_ready (rs := [3]) (by kernel_rfl) (by simp) ?_
      refine AllReadyH.cons rfl (fun K1 hK1 => ?_) AllReadyH.nil
      go_simp
      refine (regions_any 74 _ W H j bc cb co _).mono ?_
      rintro e w5 ⟨gb, db, rfl, hR5, hgb, hdb, hb5⟩
      have B5 : Below wo.heap.size wo w5 := SW.trans (hb5.mono SW.size)
      have HR5 := hide hR5
      have HGB : Hid (w2.heap.size ≤ gb ∧ w2.heap.size ≤ db) := hide ⟨hgb, hdb⟩
      have HR2 := hide (R2.out.mono hb5)
      refine hK1.out _ _ B5 (fun SW => ?_)
      have HB5 := hide B5
      clear hK1 K1 hR5 hgb hdb hb5 R2 B5
      refine wpAnyH_done (by kernel_rfl) ?_ _
      clear SW
      go_wp2_with fail
      have z2 := s2.out
      have z3 := HGB.out
      have z4 := HR5.out.lt
      have z6 := HSo.out
      have I5 : ArI w.heap.size (w.heap.size + 2) wo.heap.size (wo.heap.size + 1) W H cb co j bc Z w w5 [] w5 :=
        ⟨HHo.out.below HB5.out HHo.out.lt, HR2.out, by rw [art_nil]; exact HBk.out.below HB5.out HBk.out.lt, Keeps.refl _ _⟩
      have HZ : Hid (wo.heap.size + 2 ≤ w5.heap.size ∧ cb < w.heap.size ∧ w.heap.size + 3 ≤ wo.heap.size) := hide (by have := z4 gb (.inl rfl); omega)
      have HT : Hid (∀ k, RgT gb (gb + 1) (gb + 2) db k → wo.heap.size + 2 ≤ k ∧ k < w5.heap.size) := hide (fun k hk => ⟨by unfold RgT at hk; omega, z4 k hk⟩)
      clear z2 z3 z4 z6
      refine (wpIn_wide (n := 1)).1 (wp_range_m (gf := 100) (lb := #[.pointer (some ⟨gb, 0, none⟩), .pointer (some ⟨gb + 1, 0, none⟩), .pointer (some ⟨gb + 2, 0, none⟩)]) (G := GgG w5.heap.size) (xs := rgs j (nb4 W H) fun q => Z.getD q 0 = 0) (R := RgR gb (gb + 1) (gb + 2) db W H (some ⟨cb, co, none⟩) j bc 74 #[.pointer (some ⟨wo.heap.size, 0, none⟩), .pointer (some ⟨wo.heap.size + 1, 0, none⟩)] w5.heap.size) (T := RgT gb (gb + 1) (gb + 2) db) (c := 1) (M := RgM 74 #[.pointer (some ⟨wo.heap.size, 0, none⟩), .pointer (some ⟨wo.heap.size + 1, 0, none⟩)] j fun q => Z.getD q 0 = 0) (by simp [Act.eval]) (enters_of Try.func100 (by kernel_rfl) rfl)
        (regions1_seq gb (gb + 1) (gb + 2) db W H _ j bc 74 _ w5.heap.size _ hW hH hN (enters_of Try.func74 (by kernel_rfl) rfl)) (fun k hk => (HT.out k hk).2) (fun A B hA hk => hA.keeps hk (fun k hk h => h hk)) HR5.out (fun k => k = w.heap.size + 2 ∨ w5.heap.size + 3 ≤ k) ?hX (fun x args W' hG => by obtain ⟨a, c, rfl, _⟩ := hG; rfl)
        (fun s V => ArI w.heap.size (w.heap.size + 2) wo.heap.size (wo.heap.size + 1) W H cb co j bc Z w w5 s V) (fun _ _ => False) ?hI (fun _ _ _ h _ => h) ?hM I5 ?round ?done (fun _ _ _ _ h => h.elim))
      case hX =>
        intro k hk
        have z := HZ.out
        refine ⟨fun ht => by have := HT.out k ht; omega, fun e => by omega⟩
      case hI =>
        rintro s A B h1 hk
        have z := HZ.out
        exact ⟨h1.bd.keeps hk (fun e => by omega), h1.hs.keeps hk (fun e => by omega) (fun e => by omega) (fun e => by omega), h1.no.keeps hk (fun e => by omega), h1.kp.after hk (fun i hi e => by omega)⟩
      case hM =>
        rintro s A h1 q V hq _ hb
        exact has1_any wo.heap.size (wo.heap.size + 1) W H cb co j bc 0 Z q V hq (h1.hs.mono hb)
      case round =>
        rintro l2 s L args W6 hl2 hrec hI6 hpre hG hsz6
        obtain ⟨ga, gc, rfl, hIr⟩ := hG
        have hLm : L ∈ rgs j (nb4 W H) fun q => Z.getD q 0 = 0 := hpre.subset (by simp)
        obtain ⟨r1, r2, r3⟩ := reg_ne hLm
        have hL100 : L.length ≤ 100 := Nat.le_trans r3 hN100
        have HL2 : Hid (∀ x ∈ L, x < W * H) := hide (fun x hx => by rw [hN]; exact (r2 x hx).1)
        have hgblk : ∀ b off, ga = some ⟨b, off, none⟩ → b ≠ l2 := by
          intro b off e
          obtain ⟨h1, cur, h2⟩ := hIr.ty b off e
          intro e2
          subst e2
          obtain ⟨rc, hrc⟩ := hrec
          rw [hrc] at h2
          simp at h2
        have HSN := hide (art_snoc W H j Z s L)
        have HAS := hide (HART.out (s ++ [L]) hpre)
        have hok := ow_lt W H Z L
        have HGK := hide hgblk
        have HI6 := hide hI6
        have HIR := hide hIr.rd
        have HSZ6 := hide hsz6
        have HLL := hide hl2
        clear hI6 hpre hIr hrec hLm r2 r3 hl2 hsz6 hgblk
        gi_wp2
        refine ⟨Keeps.refl _ _, ?_⟩
        intro W7 hk7
        have z := HZ.out
        have zl := HLL.out
        have zs := HSZ6.out
        have I7 : ArI w.heap.size (w.heap.size + 2) wo.heap.size (wo.heap.size + 1) W H cb co j bc Z w w5 s W7 := ⟨HI6.out.bd.keeps hk7 (fun e => by omega), HI6.out.hs.keeps hk7 (fun e => by omega) (fun e => by omega) (fun e => by omega), HI6.out.no.keeps hk7 (fun e => by omega), HI6.out.kp.after hk7 (fun i hi e => by omega)⟩
        have HR7 := hide (HIR.out.keeps hk7 (fun b off e => HGK.out b off e))
        have HC := hide (owner_any W H j bc cb co Z ga gc L W7 hW hH hN HL2.out hL100 r1 I7.hs.r HR7.out)
        have hb7 := I7.bd
        have HI7 := hide I7
        obtain ⟨k, hk⟩ : ∃ k, ow W H Z L = k := ⟨_, rfl⟩
        rw [hk] at HC HSN hok
        obtain ⟨gl, hgl⟩ : ∃ gl, L.length = gl := ⟨_, rfl⟩
        rw [hgl] at HC HR7 hL100 r1 HSN ⊢
        have hgc : gl ≤ gc := HR7.out.cap
        have hok' : (k : Int) < 3 := by omega
        clear hgl hk hk7 HI6 HIR z zl zs I7
        gi_wp2_with (first | (refine roundIn_load_hb rfl (.tmp 1) rfl w.heap.size rfl hb7 ?_) | fail)
        refine (CallsIn.inRound l2 (callsIn_wide.2 HC.out)).mono ?_
        rintro e W8 ⟨rfl, hb8⟩
        have I8 : ArI w.heap.size (w.heap.size + 2) wo.heap.size (wo.heap.size + 1) W H cb co j bc Z w w5 s W8 := ⟨HI7.out.bd.below hb8 HI7.out.bd.lt, HI7.out.hs.mono hb8, HI7.out.no.below hb8 HI7.out.no.lt, HI7.out.kp.trans (Keeps.of_all hb8)⟩
        have cA := I8.no.cell (i := k) (by rw [toI_len, HAL.out]; exact hok)
        rw [toI_getD (by rw [HAL.out]; exact hok)] at cA
        have fA := I8.no.frozen k
        have hAb : (art W H j Z s).getD k 0 + gl ≤ 100 := by
          have h1 := HAS.out
          rw [HSN.out, bump_sum _ (by rw [HAL.out]; exact hok)] at h1
          have := le_sum (A := art W H j Z s) (k := k)
          omega
        have HNO : Hid (Blk (W8.setCell ⟨w.heap.size + 2, k, none⟩ (.int .i64 (((art W H j Z s).getD k 0 : Nat) + (gl : Nat) : Int))) (w.heap.size + 2) 72 (toI (art W H j Z (s ++ [L])))) := hide (by
          have := I8.no.set k (((art W H j Z s).getD k 0 : Nat) + (gl : Nat) : Int)
          rw [HSN.out, bump]
          rw [show toI ((art W H j Z s).set k ((art W H j Z s).getD k 0 + gl)) = (toI (art W H j Z s)).set k (((art W H j Z s).getD k 0 : Nat) + (gl : Nat) : Int) by unfold toI; rw [List.map_set]; simp]
          exact this)
        obtain ⟨av, hav⟩ : ∃ av, (art W H j Z s).getD k 0 = av := ⟨_, rfl⟩
        rw [hav] at cA hAb HNO
        have kk : Keeps (fun q => q = w.heap.size + 2) W8 (W8.setCell ⟨w.heap.size + 2, k, none⟩ (.int .i64 ((av : Nat) + (gl : Nat) : Int))) := Keeps.set1 _ _ _ _
        have z := HZ.out
        have HI9 : Hid (ArI w.heap.size (w.heap.size + 2) wo.heap.size (wo.heap.size + 1) W H cb co j bc Z w w5 (s ++ [L]) (W8.setCell ⟨w.heap.size + 2, k, none⟩ (.int .i64 ((av : Nat) + (gl : Nat) : Int)))) := hide ⟨I8.bd.keeps kk (by omega), I8.hs.keeps kk (by omega) (by omega) (by omega), HNO.out, I8.kp.trans kk⟩
        have HK9 : Hid (Keeps (fun q => q = w.heap.size + 2 ∨ w5.heap.size + 3 ≤ q) W7 (W8.setCell ⟨w.heap.size + 2, k, none⟩ (.int .i64 ((av : Nat) + (gl : Nat) : Int)))) := hide ((Keeps.of_all hb8).trans (kk.mono (fun _ _ e => .inl e)))
        clear hb8 I8 kk hav HNO HC hb7 z
        gi_wp2_with fail
        exact ⟨HK9.out, HI9.out⟩
      case done =>
        rintro D W6 hD hI6 hR6 hKD
        have z := HZ.out
        have HMK : Hid (Marks (w.heap.size + 3) W6 [{ target := .collected D, args := #[] }]) := hide ⟨[D], rfl, by simp, (fun E hE => by rw [List.mem_singleton.1 hE]; exact hKD), (fun E hE => by rw [List.mem_singleton.1 hE]; omega)⟩
        have HNO := hide hI6.no
        have hr6 := hI6.no.range
        have HKo6 := hide ((HKo.out.below HB5.out HKo.out.lt).keeps hI6.kp (by omega))
        have HB6 : Hid (Below w.heap.size w W6) := hide ((HBo.out.trans (HB5.out.mono HBo.out.size)).trans (hI6.kp.below (by have := HBo.out.size; have := HB5.out.size; omega) (fun k hk e => by omega)))
        have HAL2 := hide (HAL.out (rgs j (nb4 W H) fun q => Z.getD q 0 = 0))
        have HKb := hide (HKo6.out)
        have k6 := HKo6.out
        have hA3 : (toI (art W H j Z (rgs j (nb4 W H) fun q => Z.getD q 0 = 0))).length = 3 := by rw [toI_len, HAL2.out]
        clear hI6 hR6 hD hKD z
        go_wp2_with (first
          | refine wpList_load_mid rfl 72 _ rfl (w.heap.size + 2) 0 rfl (ivs (toI (art W H j Z (rgs j (nb4 W H) fun q => Z.getD q 0 = 0)))) _ hr6 Try.underlying72 rfl (by rw [ivs_length, hA3]; exact size72) ?_
          | (refine wpList_store_a3 rfl (.tmp 2) (.tmp 37) rfl (w.heap.size + 1) hA3 rfl rfl rfl k6 ?_; intro w9 k9 kk9))
        have HM9 := hide (HMK.out.keeps kk9 (fun D hD e => by subst e; have h1 : W6.heap[w.heap.size + 1]? = _ := HKb.out; rw [hD] at h1; simp at h1))
        have HB9 : Hid (Below w.heap.size w w9) := hide (HB6.out.trans (kk9.below HB6.out.size (fun k hk e => by omega)))
        refine leaves_marks HM9.out (fun wx hkx => ?_)
        exact ⟨_, results_a3 rfl _ _ (w.heap.size + 1) rfl hA3 (k9.keeps hkx (fun e => by have := e.1; omega)), rfl, HB9.out.trans (hkx.below HB9.out.size (fun q hq e => by have := e.1; omega))⟩

end Go.Proofs.Ytafiaimlmdflnaa
