/-
  A pit's seeds are sown. No conditions beyond those that each theorem bears.
-/
import Derived.Test.YtmdnoiebodaikaaGather
import Derived.Deep.Cut
import Derived.Deep.CutRange
import Derived.Deep.DeepCutAuto
namespace Go.Proofs.Ytmdnoiebodaikaa
open Go.RowKit

theorem capB_false {p t : Nat} {T : List Int} {q : Nat} (h : capB p t T q = false) : capS p t T q = T := by unfold capS; rw [if_neg (by rw [h]; simp)]
theorem capB_true {p t : Nat} {T : List Int} {q : Nat} (h : capB p t T q = true) : capS p t T q = ((T.set q 0).set (2 * p - q) 0).set (pl p t p) (T.getD (pl p t p) 0 + (1 + T.getD (2 * p - q) 0)) := by unfold capS; rw [if_pos h]
theorem capB_isP {p t : Nat} {T : List Int} {q : Nat} : capB p t T q = (isP p t q && decide (T.getD q 0 = 1) && decide (0 < T.getD (2 * p - q) 0)) := by
  rw [Bool.eq_iff_iff]
  simp [capB, isP, and_assoc]

attribute [local irreducible] capS capB sown agB endS gth spr overB isP in
set_option maxHeartbeats 8000000 in
theorem sow_any (S : List Int) (hS : S.length = 14) (p t i : Nat) (hp : p ≤ 6) (ht : t ≤ 1) (hi : i < p) (hf : Fit p S) (w : World) :
    Calls Try.prog 28 #[bv S p t, .int .i64 i] w fun e w' => e = .returned (.tuple #[bv (sowS p t i S) p (sowT p t i S), .bool (agB p t i S)]) ∧ Below w.heap.size w w' := by
  have HSW : Hid (sowS p t i S = endS p (capS p t (sown p t i S).1 (sown p t i S).2)) := hide rfl
  have HAG : Hid (agB p t i S = decide ((sown p t i S).2 = pl p t p)) := hide (by unfold agB; rfl)
  have HST0 : Hid (sowT p t i S = if agB p t i S then t else 1 - t) := hide rfl
  have HTP := sown_fit ht hi (by omega) hf.pos
  have HTF : Hid (Fit p (sown p t i S).1) := hide ⟨HTP.1, by rw [HTP.2]; exact hf.sum⟩
  have hT : Hid ((sown p t i S).1.length = 14) := hide (by unfold sown; rw [spr_length, List.length_set]; exact hS)
  have hqn : (sown p t i S).2 < 2 * (p + 1) := by unfold sown; exact spr_lt p t _ _ _ (pl_lt ht (by omega))
  have HSP : Hid (spr p t (S.getD (pl p t i) 0).toNat (S.set (pl p t i) 0) (pl p t i) = sown p t i S) := hide (by unfold sown; rfl)
  have hai := pl_lt (p := p) ht (show i ≤ p by omega)
  generalize hR : sown p t i S = R at *
  obtain ⟨T, q⟩ := R
  simp only at HSW HAG HTF hT hqn
  clear hR HTP
  generalize sowS p t i S = FS at *
  generalize agB p t i S = ag at *
  generalize sowT p t i S = u at *
  have hu : u ≤ 1 := by rw [HST0.out]; split <;> omega
  obtain ⟨w0, hw0⟩ : ∃ w0, (w.alloc (Obj.cells (ivs (bdL S p t)).toArray 46)).alloc (Obj.cells (ivs (List.replicate 16 0)).toArray 46) = w0 := ⟨_, rfl⟩
  have K0 : Blk w0 w.heap.size 46 (bdL S p t) := by rw [← hw0]; exact (Blk.new w 46 _ _ rfl).old _
  have K1 : Blk w0 (w.heap.size + 1) 46 (List.replicate 16 0) := by
    rw [← hw0]
    have := Blk.new (w.alloc (Obj.cells (ivs (bdL S p t)).toArray 46)) 46 (List.replicate 16 0) _ rfl
    rw [World.size_alloc] at this
    exact this
  have B1 : Below w.heap.size w w0 := by rw [← hw0]; exact ((Below.refl _ w).alloc (Nat.le_refl _) _).alloc (by simp) _
  have hsz : w0.heap.size = w.heap.size + 2 := by rw [← hw0]; simp
  have c15 := K0.turn hS
  have HK0 := hide K0
  have HK1 := hide K1
  have HB1 := hide B1
  have HSZ := hide hsz
  clear K0 K1 B1 hsz
  have hl : Hid ((bdL S p t).length = 16) := hide (bdL_length S p t hS)
  obtain ⟨b, hbe⟩ : ∃ b, w.heap.size = b := ⟨_, rfl⟩
  have hw0' : (w.alloc (Obj.cells (ivs (bdL S p t)).toArray 46)).alloc (Obj.cells #[.int .i64 0, .int .i64 0, .int .i64 0, .int .i64 0, .int .i64 0, .int .i64 0, .int .i64 0, .int .i64 0, .int .i64 0, .int .i64 0, .int .i64 0, .int .i64 0, .int .i64 0, .int .i64 0, .int .i64 0, .int .i64 0] 46) = w0 := hw0
  rw [hbe] at HK0 HK1 c15 HSZ
  have HKP : Hid (∀ W, Keeps (fun j => j = b) w0 W → Below w.heap.size w W) := hide (fun W h => HB1.out.trans (h.below (by rw [HSZ.out, hbe]; omega) (fun k hk e => by omega)))
  have HZB : Hid (∀ W, Keeps (fun j => j = b) w0 W → Blk W (b + 1) 46 (List.replicate 16 0)) := hide (fun W h => HK1.out.keeps h (by omega))
  go_enter Try.func28, Try.ntmps28
  go_wp2_with (first | refine wpList_load_bd rfl _ rfl b rfl (bdL S p t) hl.out HK0.out ?_)
  refine (place_any S hS p t t i hp ht (by omega) _).mono ?_
  rintro e w1 ⟨rfl, hw⟩
  have HB2 := hide (HK0.out.below hw HK0.out.lt)
  have HKc := hide (Keeps.of_all (X := fun j => j = b) hw)
  clear hw HK0 c15 HB1 HK1
  go_wp2_with fail
  refine (spread_any S hS p t (pl p t i) hp ht hai hf _ b HB2.out).mono ?_
  rintro e w2 ⟨rfl, hb', hk'⟩
  rw [HSP.out] at hb' ⊢
  have HBc := hide hb'
  have HKn := hide (HKc.out.trans hk')
  clear hb' hk' HKc HB2 HSP
  have HKc := HKn
  clear HKn
  have hl2 : Hid ((bdL T p t).length = 16) := hide (bdL_length T p t hT.out)
  go_wp2_with (first | refine wpList_load_bd rfl _ rfl b rfl (bdL T p t) hl2.out HBc.out ?_)
  refine (store_any T hT.out p t t hp ht _).mono ?_
  rintro e w3 ⟨rfl, hw⟩
  have HBn := hide (HBc.out.below hw HBc.out.lt)
  have HKn := hide (HKc.out.grow hw)
  clear hw HBc HKc
  have HBc := HBn
  have HKc := HKn
  clear HBn HKn
  have HAG2 : Hid (((q : Int) == ((pl p t p : Nat) : Int)) = ag) := hide (by
    rw [HAG.out, Bool.eq_iff_iff]
    simp
    omega)
  have HAG3 : Hid ((q == pl p t p) = ag) := hide (by
    rw [HAG.out, Bool.eq_iff_iff]
    simp)
  go_upto_region 4 with fail
  first | rw [HAG2.out] | rw [HAG3.out]
  clear HAG2 HAG3 HAG
  go_upto_if 22 with fail
  go_cut [22] (fun _ wc => Hid (Blk wc b 46 (bdL T p u)) ∧ Hid (Keeps (fun j => j = b) w0 wc))
  case first =>
    cases ag with
    | true =>
      have hut : u = t := by rw [HST0.out]; simp
      have HUT := hide hut
      clear hut
      go_wp2_with fail
      go_meet
      case rel => exact ⟨by rw [HUT.out]; exact HBc, HKc⟩
    | false =>
      have hut : u = 1 - t := by rw [HST0.out]; simp
      have HUT := hide hut
      clear hut
      go_wp2_with fail
      refine (theOther_any t ht _).mono ?_
      rintro e w4 ⟨rfl, hw⟩
      subst w4
      have c15 := HBc.out.turn hT.out
      have f15 := HBc.out.frozen 15
      have HBn : Hid (Blk (w3.setCell ⟨b, 15, none⟩ (.int .i64 ((1 - t : Nat) : Int))) b 46 (bdL T p u)) := hide (by
        rw [HUT.out, ← bdL_set15 T p t (1 - t) hT.out]
        exact HBc.out.set 15 _)
      have HKn := hide (HKc.out.setCell (p := ⟨b, 15, none⟩) rfl (.int .i64 ((1 - t : Nat) : Int)))
      generalize (1 - t : Nat) = t1 at *
      go_wp2_with fail
      go_meet
      case rel => exact ⟨HBn, HKn⟩
  case rest =>
    obtain ⟨HBd, HKd⟩ := hcut
    clear HBc HKc HST0
    have HBc := HBd
    have HKc := HKd
    clear HBd HKd
    have hl3 : Hid ((bdL T p u).length = 16) := hide (bdL_length T p u hT.out)
    have HCI : Hid (capB p t T q = (isP p t q && decide (T.getD q 0 = 1) && decide (0 < T.getD (2 * p - q) 0))) := hide capB_isP
    have HIP : Hid (isP p t q = true → q ≤ 2 * p) := hide (fun h => by
      have : pl p t 0 ≤ q ∧ q < pl p t p := by simpa [isP] using h
      exact (pit_facts ht this.1 this.2).1)
    go_upto_region 6 with fail
    go_cut [45] (fun s wc => s = .bool (capB p t T q) ∧ Hid (Blk wc b 46 (bdL T p u)) ∧ Hid (Keeps (fun j => j = b) w0 wc))
    case first =>
      by_cases hip : isP p t q = true
      · have hqp := HIP.out hip
        have HC2 : Hid (capB p t T q = (decide (T.getD q 0 = 1) && decide (0 < T.getD (2 * p - q) 0))) := hide (by rw [HCI.out, hip]; simp)
        generalize capB p t T q = cb at *
        have HP2 := hide hip
        clear hip HCI HIP
        obtain ⟨z, hz⟩ : ∃ z, T.getD q 0 = z := ⟨_, rfl⟩
        rw [hz] at HC2
        have HZ := hide hz
        clear hz
        go_wp2_with (first | refine wpList_load_bd rfl _ rfl b rfl (bdL T p u) hl3.out HBc.out ?_)
        refine (isPitOf_any T hT.out p u t q hp ht _).mono ?_
        rintro e w5 ⟨rfl, hw⟩
        rw [HP2.out]
        have HBn := hide (HBc.out.below hw HBc.out.lt)
        have HKn := hide (HKc.out.grow hw)
        clear hw HBc HKc
        have c1 := HBn.out.seed hT.out (i := q) (by omega)
        rw [HZ.out] at c1
        by_cases h1 : z = 1
        · have h1b : (z == 1) = true := by simp [h1]
          obtain ⟨r, hr⟩ : ∃ r, 2 * p - q = r := ⟨_, rfl⟩
          obtain ⟨y, hy⟩ : ∃ y, T.getD r 0 = y := ⟨_, rfl⟩
          have HC3 : Hid (cb = decide (0 < y)) := hide (by rw [HC2.out, hr, hy]; simp [h1])
          have HR := hide hr
          have HY := hide hy
          have hr14 : r < 14 := by omega
          clear hr hy h1 HC2
          go_wp2_with (first | refine wpList_load_bdw rfl _ rfl b rfl (bdL T p u) hl3.out HBn.out ?_)
          refine (across_any T hT.out p u q hp hqp _).mono ?_
          rintro e w6 ⟨rfl, hw⟩
          rw [HR.out]
          have HB7 := hide (HBn.out.below hw HBn.out.lt)
          have HK7 := hide (HKn.out.grow hw)
          clear hw HBn HKn c1
          have c2 := HB7.out.seed hT.out (i := r) hr14
          rw [HY.out] at c2
          go_wp2_with fail
          go_meet
          case rel => exact ⟨by rw [HC3.out], HB7, HK7⟩
        · have h1b : (z == 1) = false := by simpa using h1
          have HC3 : Hid (cb = false) := hide (by rw [HC2.out]; simp [h1])
          clear h1 HC2
          go_wp2_with fail
          go_meet
          case rel => exact ⟨by rw [HC3.out], HBn, HKn⟩
      · have hip' : isP p t q = false := by simpa using hip
        have HC2 : Hid (capB p t T q = false) := hide (by rw [HCI.out, hip']; simp)
        have HP2 := hide hip'
        clear hip hip' HCI HIP
        generalize capB p t T q = cb at *
        go_wp2_with (first | refine wpList_load_bd rfl _ rfl b rfl (bdL T p u) hl3.out HBc.out ?_)
        refine (isPitOf_any T hT.out p u t q hp ht _).mono ?_
        rintro e w5 ⟨rfl, hw⟩
        rw [HP2.out]
        have HBn := hide (HBc.out.below hw HBc.out.lt)
        have HKn := hide (HKc.out.grow hw)
        clear hw HBc HKc
        go_wp2_with fail
        go_meet
        case rel => exact ⟨by rw [HC2.out], HBn, HKn⟩
    case rest =>
      obtain ⟨rfl, HBd, HKd⟩ := hcut
      clear HBc HKc HCI HIP
      have HBc := HBd
      have HKc := HKd
      clear HBd HKd
      have HCT : Hid (capB p t T q = true → capS p t T q = ((T.set q 0).set (2 * p - q) 0).set (pl p t p) (T.getD (pl p t p) 0 + (1 + T.getD (2 * p - q) 0)) ∧ pl p t 0 ≤ q ∧ q < pl p t p ∧ T.getD q 0 = 1) := hide (fun h => ⟨capB_true h, (capB_facts h).1, (capB_facts h).2.1, (capB_facts h).2.2.1⟩)
      have HCF : Hid (capB p t T q = false → capS p t T q = T) := hide capB_false
      have HCX := capS_fit (q := q) ht (show 2 * (p + 1) ≤ T.length by rw [hT.out]; omega) HTF.out.pos
      have HXF : Hid (Fit p (capS p t T q)) := hide ⟨HCX.1, by rw [HCX.2]; exact HTF.out.sum⟩
      have hX : Hid ((capS p t T q).length = 14) := hide (by rw [capS_length]; exact hT.out)
      clear HCX
      generalize capS p t T q = X at *
      go_upto_if 45 with fail
      go_cut [45] (fun _ wc => Hid (Blk wc b 46 (bdL X p u)) ∧ Hid (Keeps (fun j => j = b) w0 wc))
      case first =>
        cases hcb : capB p t T q with
        | false =>
          have HX := hide (HCF.out hcb)
          clear hcb HCT HCF
          go_wp2_with fail
          go_meet
          case rel => exact ⟨by rw [HX.out]; exact HBc, HKc⟩
        | true =>
          obtain ⟨hx1, hx2, hx3, hx4⟩ := HCT.out hcb
          obtain ⟨hqp, b2, b3, b4, b5, b6⟩ := pit_facts ht hx2 hx3
          have hs := pl_lt (p := p) ht (Nat.le_refl p)
          obtain ⟨s, hse⟩ : ∃ s, pl p t p = s := ⟨_, rfl⟩
          obtain ⟨r, hre⟩ : ∃ r, 2 * p - q = r := ⟨_, rfl⟩
          rw [hse] at hx1 b3 b4 hs
          rw [hre] at hx1 b2 b4 b6
          obtain ⟨v, hv⟩ : ∃ v, T.getD s 0 = v := ⟨_, rfl⟩
          obtain ⟨y, hy⟩ : ∃ y, T.getD r 0 = y := ⟨_, rfl⟩
          have v1 := HTF.out.pos s hs
          have v2 := HTF.out.le hs
          have y1 := HTF.out.pos r b6
          have y2 := HTF.out.le b6
          rw [hv] at v1 v2 hx1
          rw [hy] at y1 y2 hx1
          have HST := hide hse
          have HR := hide hre
          have H1 := hide hx4
          have HV := hide hv
          have hT2 : Hid ((T.set q 0).length = 14) := hide (by rw [List.length_set]; exact hT.out)
          have hT3 : Hid (((T.set q 0).set r 0).length = 14) := hide (by rw [List.length_set]; exact hT2.out)
          have HV2 : Hid ((T.set q 0).getD s 0 = v) := hide (by rw [getD_set _ _ _ _ (by rw [hT.out]; omega), if_neg (fun e => b3 e.symm)]; exact hv)
          have HV3 : Hid (((T.set q 0).set r 0).getD s 0 = v) := hide (by rw [getD_set _ _ _ _ (by rw [hT2.out]; omega), if_neg (fun e => b4 e.symm)]; exact HV2.out)
          have HY2 : Hid ((T.set q 0).getD r 0 = y) := hide (by rw [getD_set _ _ _ _ (by rw [hT.out]; omega), if_neg b2]; exact hy)
          have HE : Hid (∀ W, Blk W b 46 (bdL (((T.set q 0).set r 0).set s (v + (1 + y))) p u) → Hid (Blk W b 46 (bdL X p u))) := hide (fun W h => by rw [hx1]; exact h)
          clear hx1 hx2 hx3 hx4 b2 b3 b4 hse hre hv hy hcb HCT HCF
          go_upto_region 7 with fail
          have HBn : Hid (Blk (World.drew _) b 46 (bdL T p u)) := HBc
          have HKn := hide HKc.out.drew
          clear HBc HKc
          have HBc := HBn
          have HKc := HKn
          clear HBn HKn
          refine wp_region_held (S := fun _ => True) (by kernel_rfl) ?_
          change wpAnyH _ _ _ _ _ _ _ _ (World.drew _)
          refine wpAnyH_take (i := 1) (v := .int .i64 t) rfl (by kernel_rfl) (by kernel_rfl) (by kernel_rfl) (fun _ _ _ h => h) (Or.inl ⟨by rfl, ?_⟩) trivial ?_
          · intro W _
            go_simp <;> first | done | rfl | (rw [IntKind.wrap_i64]; omega) | (intro hh; exfalso; omega) | (refine Eq.trans ?_ rfl; omega)
          go_simp
          refine wpAnyH_take (i := 3) (v := .pointer (some ⟨b, 0, none⟩)) rfl (by kernel_rfl) (by kernel_rfl) (by kernel_rfl) (fun _ _ _ h => h) (Or.inl ⟨by rfl, ?_⟩) trivial ?_
          · intro W _
            go_simp <;> first | done | rfl | (rw [IntKind.wrap_i64]; omega) | (intro hh; exfalso; omega) | (refine Eq.trans ?_ rfl; omega)
          go_simp
          refine wpAnyH_take (i := 6) (v := .int .i64 q) rfl (by kernel_rfl) (by kernel_rfl) (by kernel_rfl) (fun _ _ _ h => h) (Or.inl ⟨by rfl, ?_⟩) trivial ?_
          · intro W _
            go_simp <;> first | done | rfl | (rw [IntKind.wrap_i64]; omega) | (intro hh; exfalso; omega) | (refine Eq.trans ?_ rfl; omega)
          go_simp
          refine wpAnyH_take (i := 9) (v := .int .i64 q) rfl (by kernel_rfl) (by kernel_rfl) (by kernel_rfl) (fun _ _ _ h => h) (Or.inl ⟨by rfl, ?_⟩) trivial ?_
          · intro W _
            go_simp <;> first | done | rfl | (rw [IntKind.wrap_i64]; omega) | (intro hh; exfalso; omega) | (refine Eq.trans ?_ rfl; omega)
          go_simp
          refine wpAnyH_take (i := 14) (v := .pointer (some ⟨b, 0, none⟩)) rfl (by kernel_rfl) (by kernel_rfl) (by kernel_rfl) (fun _ _ _ h => h) (Or.inl ⟨by rfl, ?_⟩) trivial ?_
          · intro W _
            go_simp <;> first | done | rfl | (rw [IntKind.wrap_i64]; omega) | (intro hh; exfalso; omega) | (refine Eq.trans ?_ rfl; omega)
          go_simp
          refine wpAnyH_ready (rs := [0, 8]) (by kernel_rfl) (by simp) ?_
          refine AllReadyH.cons rfl (fun K1 hK1 => ?_) ?_
          · rw [if_pos (by rfl)]
            refine wp_load_mid 46 _ rfl b 0 (by rfl) (ivs (bdL T p u)) _ HBc.out.range Try.underlying46 rfl (by rw [ivs_length, bdL_length _ _ _ hT.out]; exact size46) ?_
            refine hK1.out _ _ trivial (fun _ => ?_)
            clear hK1 K1
            go_simp
            refine wpAnyH_ready (rs := [2, 8]) (by kernel_rfl) (by simp) ?_
            refine AllReadyH.cons rfl (fun K1 hK1 => ?_) ?_
            · go_simp
              refine (store_any T hT.out p u t hp ht _).mono ?_
              rintro e W ⟨rfl, hw⟩
              have HBn := hide (HBc.out.below hw HBc.out.lt)
              have HKn := hide (HKc.out.grow hw)
              clear HBc HKc hw
              have HBc := HBn
              have HKc := HKn
              clear HBn HKn
              rw [HST.out]
              refine hK1.out _ _ trivial (fun _ => ?_)
              clear hK1 K1
              go_simp
              refine wpAnyH_take (i := 4) (v := .pointer (some ⟨b, s, none⟩)) rfl (by kernel_rfl) (by kernel_rfl) (by kernel_rfl) (fun _ _ _ h => h) (Or.inl ⟨by rfl, ?_⟩) trivial ?_
              · intro W _
                go_simp <;> first | done | rfl | (rw [IntKind.wrap_i64]; omega) | (intro hh; exfalso; omega) | (refine Eq.trans ?_ rfl; omega)
              go_simp
              refine wpAnyH_ready (rs := [5, 7, 8]) (by kernel_rfl) (by simp) ?_
              refine AllReadyH.cons rfl (fun K1 hK1 => ?_) ?_
              · have c9 := HBc.out.seed hT.out (i := s) (by omega)
                rw [HV.out] at c9
                go_simp
                refine hK1.out _ _ trivial (fun _ => ?_)
                clear hK1 K1
                go_simp
                clear c9
                refine wpAnyH_ready (rs := [7, 8]) (by kernel_rfl) (by simp) ?_
                refine AllReadyH.cons rfl (fun K1 hK1 => ?_) ?_
                · go_simp
                  refine (take_any T hT.out p u q (by omega) _ b HBc.out).mono ?_
                  rintro e W ⟨rfl, hb', hk'⟩
                  have HBn := hide hb'
                  have HKn := hide (HKc.out.trans hk')
                  clear HBc HKc hb' hk'
                  have HBc := HBn
                  have HKc := HKn
                  clear HBn HKn
                  rw [H1.out]
                  refine hK1.out _ _ trivial (fun _ => ?_)
                  clear hK1 K1
                  go_simp
                  refine wpAnyH_ready (rs := [8]) (by kernel_rfl) (by simp) ?_
                  refine AllReadyH.cons rfl (fun K1 hK1 => ?_) AllReadyH.nil
                  rw [if_pos (by rfl)]
                  refine wp_load_mid 46 _ rfl b 0 (by rfl) (ivs (bdL (T.set q 0) p u)) _ HBc.out.range Try.underlying46 rfl (by rw [ivs_length, bdL_length _ _ _ hT2.out]; exact size46) ?_
                  refine hK1.out _ _ trivial (fun _ => ?_)
                  clear hK1 K1
                  go_simp
                  refine wpAnyH_ready (rs := [10]) (by kernel_rfl) (by simp) ?_
                  refine AllReadyH.cons rfl (fun K1 hK1 => ?_) AllReadyH.nil
                  go_simp
                  refine (across_any (T.set q 0) hT2.out p u q hp hqp _).mono ?_
                  rintro e W ⟨rfl, hw⟩
                  have HBn := hide (HBc.out.below hw HBc.out.lt)
                  have HKn := hide (HKc.out.grow hw)
                  clear HBc HKc hw
                  have HBc := HBn
                  have HKc := HKn
                  clear HBn HKn
                  rw [HR.out]
                  refine hK1.out _ _ trivial (fun _ => ?_)
                  clear hK1 K1
                  go_simp
                  refine wpAnyH_ready (rs := [11]) (by kernel_rfl) (by simp) ?_
                  refine AllReadyH.cons rfl (fun K1 hK1 => ?_) AllReadyH.nil
                  go_simp
                  refine (take_any (T.set q 0) hT2.out p u r (by omega) _ b HBc.out).mono ?_
                  rintro e W ⟨rfl, hb', hk'⟩
                  have HBn := hide hb'
                  have HKn := hide (HKc.out.trans hk')
                  clear HBc HKc hb' hk'
                  have HBc := HBn
                  have HKc := HKn
                  clear HBn HKn
                  rw [HY2.out]
                  refine hK1.out _ _ trivial (fun _ => ?_)
                  clear hK1 K1
                  go_simp
                  refine wpAnyH_take (i := 12) (v := .int .i64 (1 + y)) rfl (by kernel_rfl) (by kernel_rfl) (by kernel_rfl) (fun _ _ _ h => h) (Or.inl ⟨by rfl, ?_⟩) trivial ?_
                  · intro W _
                    go_simp <;> first | done | rfl | (rw [IntKind.wrap_i64]; omega) | (intro hh; exfalso; omega) | (refine Eq.trans ?_ rfl; omega)
                  go_simp
                  refine wpAnyH_take (i := 13) (v := .int .i64 (v + (1 + y))) rfl (by kernel_rfl) (by kernel_rfl) (by kernel_rfl) (fun _ _ _ h => h) (Or.inl ⟨by rfl, ?_⟩) trivial ?_
                  · intro W _
                    go_simp <;> first | done | rfl | (rw [IntKind.wrap_i64]; omega) | (intro hh; exfalso; omega) | (refine Eq.trans ?_ rfl; omega)
                  go_simp
                  refine wpAnyH_take (i := 15) (v := .pointer (some ⟨b, s, none⟩)) rfl (by kernel_rfl) (by kernel_rfl) (by kernel_rfl) (fun _ _ _ h => h) (Or.inl ⟨by rfl, ?_⟩) trivial ?_
                  · intro W _
                    go_simp <;> first | done | rfl | (rw [IntKind.wrap_i64]; omega) | (intro hh; exfalso; omega) | (refine Eq.trans ?_ rfl; omega)
                  go_simp
                  refine wpAnyH_ready (rs := [16]) (by kernel_rfl) (by simp) ?_
                  refine AllReadyH.cons rfl (fun K1 hK1 => ?_) AllReadyH.nil
                  have c22 := HBc.out.seed hT3.out (i := s) (by omega)
                  have f22 := HBc.out.frozen s
                  have HBn : Hid (∀ y : Int, Blk (World.setCell _ ⟨b, s, none⟩ (.int .i64 y)) b 46 (bdL (((T.set q 0).set r 0).set s y) p u)) := hide (fun y => by rw [← bdL_set _ _ _ _ _ hT3.out (by omega)]; exact HBc.out.set s y)
                  have HKn : Hid (∀ v, Keeps (fun j => j = b) w0 (World.setCell _ ⟨b, s, none⟩ v)) := hide (fun v => HKc.out.setCell rfl v)
                  clear HBc HKc
                  have HBc := hide (HBn.out (v + (1 + y)))
                  have HKc := hide (HKn.out (.int .i64 (v + (1 + y))))
                  clear HBn HKn
                  go_simp
                  refine hK1.out _ _ trivial (fun _ => ?_)
                  clear hK1 K1
                  go_simp
                  clear c22 f22
                  refine wpAnyH_done (by kernel_rfl) ?_ _
                  go_wp2_with fail
                  go_meet
                  case rel => exact ⟨HE.out _ HBc.out, HKc⟩
                refine AllReadyH.cons rfl (fun K1 hK1 => ?_) AllReadyH.nil
                rw [if_pos (by rfl)]
                refine wp_load_mid 46 _ rfl b 0 (by rfl) (ivs (bdL T p u)) _ HBc.out.range Try.underlying46 rfl (by rw [ivs_length, bdL_length _ _ _ hT.out]; exact size46) ?_
                refine hK1.out _ _ trivial (fun _ => ?_)
                clear hK1 K1
                go_simp
                refine wpAnyH_ready (rs := [7]) (by kernel_rfl) (by simp) ?_
                refine AllReadyH.cons rfl (fun K1 hK1 => ?_) AllReadyH.nil
                go_simp
                refine (take_any T hT.out p u q (by omega) _ b HBc.out).mono ?_
                rintro e W ⟨rfl, hb', hk'⟩
                have HBn := hide hb'
                have HKn := hide (HKc.out.trans hk')
                clear HBc HKc hb' hk'
                have HBc := HBn
                have HKc := HKn
                clear HBn HKn
                rw [H1.out]
                refine hK1.out _ _ trivial (fun _ => ?_)
                clear hK1 K1
                go_simp
                refine wpAnyH_ready (rs := [10]) (by kernel_rfl) (by simp) ?_
                refine AllReadyH.cons rfl (fun K1 hK1 => ?_) AllReadyH.nil
                go_simp
                refine (across_any T hT.out p u q hp hqp _).mono ?_
                rintro e W ⟨rfl, hw⟩
                have HBn := hide (HBc.out.below hw HBc.out.lt)
                have HKn := hide (HKc.out.grow hw)
                clear HBc HKc hw
                have HBc := HBn
                have HKc := HKn
                clear HBn HKn
                rw [HR.out]
                refine hK1.out _ _ trivial (fun _ => ?_)
                clear hK1 K1
                go_simp
                refine wpAnyH_ready (rs := [11]) (by kernel_rfl) (by simp) ?_
                refine AllReadyH.cons rfl (fun K1 hK1 => ?_) AllReadyH.nil
                go_simp
                refine (take_any (T.set q 0) hT2.out p u r (by omega) _ b HBc.out).mono ?_
                rintro e W ⟨rfl, hb', hk'⟩
                have HBn := hide hb'
                have HKn := hide (HKc.out.trans hk')
                clear HBc HKc hb' hk'
                have HBc := HBn
                have HKc := HKn
                clear HBn HKn
                rw [HY2.out]
                refine hK1.out _ _ trivial (fun _ => ?_)
                clear hK1 K1
                go_simp
                refine wpAnyH_take (i := 12) (v := .int .i64 (1 + y)) rfl (by kernel_rfl) (by kernel_rfl) (by kernel_rfl) (fun _ _ _ h => h) (Or.inl ⟨by rfl, ?_⟩) trivial ?_
                · intro W _
                  go_simp <;> first | done | rfl | (rw [IntKind.wrap_i64]; omega) | (intro hh; exfalso; omega) | (refine Eq.trans ?_ rfl; omega)
                go_simp
                refine wpAnyH_take (i := 13) (v := .int .i64 (v + (1 + y))) rfl (by kernel_rfl) (by kernel_rfl) (by kernel_rfl) (fun _ _ _ h => h) (Or.inl ⟨by rfl, ?_⟩) trivial ?_
                · intro W _
                  go_simp <;> first | done | rfl | (rw [IntKind.wrap_i64]; omega) | (intro hh; exfalso; omega) | (refine Eq.trans ?_ rfl; omega)
                go_simp
                refine wpAnyH_take (i := 15) (v := .pointer (some ⟨b, s, none⟩)) rfl (by kernel_rfl) (by kernel_rfl) (by kernel_rfl) (fun _ _ _ h => h) (Or.inl ⟨by rfl, ?_⟩) trivial ?_
                · intro W _
                  go_simp <;> first | done | rfl | (rw [IntKind.wrap_i64]; omega) | (intro hh; exfalso; omega) | (refine Eq.trans ?_ rfl; omega)
                go_simp
                refine wpAnyH_ready (rs := [16]) (by kernel_rfl) (by simp) ?_
                refine AllReadyH.cons rfl (fun K1 hK1 => ?_) AllReadyH.nil
                have c22 := HBc.out.seed hT3.out (i := s) (by omega)
                have f22 := HBc.out.frozen s
                have HBn : Hid (∀ y : Int, Blk (World.setCell _ ⟨b, s, none⟩ (.int .i64 y)) b 46 (bdL (((T.set q 0).set r 0).set s y) p u)) := hide (fun y => by rw [← bdL_set _ _ _ _ _ hT3.out (by omega)]; exact HBc.out.set s y)
                have HKn : Hid (∀ v, Keeps (fun j => j = b) w0 (World.setCell _ ⟨b, s, none⟩ v)) := hide (fun v => HKc.out.setCell rfl v)
                clear HBc HKc
                have HBc := hide (HBn.out (v + (1 + y)))
                have HKc := hide (HKn.out (.int .i64 (v + (1 + y))))
                clear HBn HKn
                go_simp
                refine hK1.out _ _ trivial (fun _ => ?_)
                clear hK1 K1
                go_simp
                clear c22 f22
                refine wpAnyH_done (by kernel_rfl) ?_ _
                go_wp2_with fail
                go_meet
                case rel => exact ⟨HE.out _ HBc.out, HKc⟩
              refine AllReadyH.cons rfl (fun K1 hK1 => ?_) ?_
              · go_simp
                refine (take_any T hT.out p u q (by omega) _ b HBc.out).mono ?_
                rintro e W ⟨rfl, hb', hk'⟩
                have HBn := hide hb'
                have HKn := hide (HKc.out.trans hk')
                clear HBc HKc hb' hk'
                have HBc := HBn
                have HKc := HKn
                clear HBn HKn
                rw [H1.out]
                refine hK1.out _ _ trivial (fun _ => ?_)
                clear hK1 K1
                go_simp
                refine wpAnyH_ready (rs := [5, 8]) (by kernel_rfl) (by simp) ?_
                refine AllReadyH.cons rfl (fun K1 hK1 => ?_) ?_
                · have c9 := HBc.out.seed hT2.out (i := s) (by omega)
                  rw [HV2.out] at c9
                  go_simp
                  refine hK1.out _ _ trivial (fun _ => ?_)
                  clear hK1 K1
                  go_simp
                  clear c9
                  refine wpAnyH_ready (rs := [8]) (by kernel_rfl) (by simp) ?_
                  refine AllReadyH.cons rfl (fun K1 hK1 => ?_) AllReadyH.nil
                  rw [if_pos (by rfl)]
                  refine wp_load_mid 46 _ rfl b 0 (by rfl) (ivs (bdL (T.set q 0) p u)) _ HBc.out.range Try.underlying46 rfl (by rw [ivs_length, bdL_length _ _ _ hT2.out]; exact size46) ?_
                  refine hK1.out _ _ trivial (fun _ => ?_)
                  clear hK1 K1
                  go_simp
                  refine wpAnyH_ready (rs := [10]) (by kernel_rfl) (by simp) ?_
                  refine AllReadyH.cons rfl (fun K1 hK1 => ?_) AllReadyH.nil
                  go_simp
                  refine (across_any (T.set q 0) hT2.out p u q hp hqp _).mono ?_
                  rintro e W ⟨rfl, hw⟩
                  have HBn := hide (HBc.out.below hw HBc.out.lt)
                  have HKn := hide (HKc.out.grow hw)
                  clear HBc HKc hw
                  have HBc := HBn
                  have HKc := HKn
                  clear HBn HKn
                  rw [HR.out]
                  refine hK1.out _ _ trivial (fun _ => ?_)
                  clear hK1 K1
                  go_simp
                  refine wpAnyH_ready (rs := [11]) (by kernel_rfl) (by simp) ?_
                  refine AllReadyH.cons rfl (fun K1 hK1 => ?_) AllReadyH.nil
                  go_simp
                  refine (take_any (T.set q 0) hT2.out p u r (by omega) _ b HBc.out).mono ?_
                  rintro e W ⟨rfl, hb', hk'⟩
                  have HBn := hide hb'
                  have HKn := hide (HKc.out.trans hk')
                  clear HBc HKc hb' hk'
                  have HBc := HBn
                  have HKc := HKn
                  clear HBn HKn
                  rw [HY2.out]
                  refine hK1.out _ _ trivial (fun _ => ?_)
                  clear hK1 K1
                  go_simp
                  refine wpAnyH_take (i := 12) (v := .int .i64 (1 + y)) rfl (by kernel_rfl) (by kernel_rfl) (by kernel_rfl) (fun _ _ _ h => h) (Or.inl ⟨by rfl, ?_⟩) trivial ?_
                  · intro W _
                    go_simp <;> first | done | rfl | (rw [IntKind.wrap_i64]; omega) | (intro hh; exfalso; omega) | (refine Eq.trans ?_ rfl; omega)
                  go_simp
                  refine wpAnyH_take (i := 13) (v := .int .i64 (v + (1 + y))) rfl (by kernel_rfl) (by kernel_rfl) (by kernel_rfl) (fun _ _ _ h => h) (Or.inl ⟨by rfl, ?_⟩) trivial ?_
                  · intro W _
                    go_simp <;> first | done | rfl | (rw [IntKind.wrap_i64]; omega) | (intro hh; exfalso; omega) | (refine Eq.trans ?_ rfl; omega)
                  go_simp
                  refine wpAnyH_take (i := 15) (v := .pointer (some ⟨b, s, none⟩)) rfl (by kernel_rfl) (by kernel_rfl) (by kernel_rfl) (fun _ _ _ h => h) (Or.inl ⟨by rfl, ?_⟩) trivial ?_
                  · intro W _
                    go_simp <;> first | done | rfl | (rw [IntKind.wrap_i64]; omega) | (intro hh; exfalso; omega) | (refine Eq.trans ?_ rfl; omega)
                  go_simp
                  refine wpAnyH_ready (rs := [16]) (by kernel_rfl) (by simp) ?_
                  refine AllReadyH.cons rfl (fun K1 hK1 => ?_) AllReadyH.nil
                  have c22 := HBc.out.seed hT3.out (i := s) (by omega)
                  have f22 := HBc.out.frozen s
                  have HBn : Hid (∀ y : Int, Blk (World.setCell _ ⟨b, s, none⟩ (.int .i64 y)) b 46 (bdL (((T.set q 0).set r 0).set s y) p u)) := hide (fun y => by rw [← bdL_set _ _ _ _ _ hT3.out (by omega)]; exact HBc.out.set s y)
                  have HKn : Hid (∀ v, Keeps (fun j => j = b) w0 (World.setCell _ ⟨b, s, none⟩ v)) := hide (fun v => HKc.out.setCell rfl v)
                  clear HBc HKc
                  have HBc := hide (HBn.out (v + (1 + y)))
                  have HKc := hide (HKn.out (.int .i64 (v + (1 + y))))
                  clear HBn HKn
                  go_simp
                  refine hK1.out _ _ trivial (fun _ => ?_)
                  clear hK1 K1
                  go_simp
                  clear c22 f22
                  refine wpAnyH_done (by kernel_rfl) ?_ _
                  go_wp2_with fail
                  go_meet
                  case rel => exact ⟨HE.out _ HBc.out, HKc⟩
                refine AllReadyH.cons rfl (fun K1 hK1 => ?_) AllReadyH.nil
                rw [if_pos (by rfl)]
                refine wp_load_mid 46 _ rfl b 0 (by rfl) (ivs (bdL (T.set q 0) p u)) _ HBc.out.range Try.underlying46 rfl (by rw [ivs_length, bdL_length _ _ _ hT2.out]; exact size46) ?_
                refine hK1.out _ _ trivial (fun _ => ?_)
                clear hK1 K1
                go_simp
                refine wpAnyH_ready (rs := [5, 10]) (by kernel_rfl) (by simp) ?_
                refine AllReadyH.cons rfl (fun K1 hK1 => ?_) ?_
                · have c9 := HBc.out.seed hT2.out (i := s) (by omega)
                  rw [HV2.out] at c9
                  go_simp
                  refine hK1.out _ _ trivial (fun _ => ?_)
                  clear hK1 K1
                  go_simp
                  clear c9
                  refine wpAnyH_ready (rs := [10]) (by kernel_rfl) (by simp) ?_
                  refine AllReadyH.cons rfl (fun K1 hK1 => ?_) AllReadyH.nil
                  go_simp
                  refine (across_any (T.set q 0) hT2.out p u q hp hqp _).mono ?_
                  rintro e W ⟨rfl, hw⟩
                  have HBn := hide (HBc.out.below hw HBc.out.lt)
                  have HKn := hide (HKc.out.grow hw)
                  clear HBc HKc hw
                  have HBc := HBn
                  have HKc := HKn
                  clear HBn HKn
                  rw [HR.out]
                  refine hK1.out _ _ trivial (fun _ => ?_)
                  clear hK1 K1
                  go_simp
                  refine wpAnyH_ready (rs := [11]) (by kernel_rfl) (by simp) ?_
                  refine AllReadyH.cons rfl (fun K1 hK1 => ?_) AllReadyH.nil
                  go_simp
                  refine (take_any (T.set q 0) hT2.out p u r (by omega) _ b HBc.out).mono ?_
                  rintro e W ⟨rfl, hb', hk'⟩
                  have HBn := hide hb'
                  have HKn := hide (HKc.out.trans hk')
                  clear HBc HKc hb' hk'
                  have HBc := HBn
                  have HKc := HKn
                  clear HBn HKn
                  rw [HY2.out]
                  refine hK1.out _ _ trivial (fun _ => ?_)
                  clear hK1 K1
                  go_simp
                  refine wpAnyH_take (i := 12) (v := .int .i64 (1 + y)) rfl (by kernel_rfl) (by kernel_rfl) (by kernel_rfl) (fun _ _ _ h => h) (Or.inl ⟨by rfl, ?_⟩) trivial ?_
                  · intro W _
                    go_simp <;> first | done | rfl | (rw [IntKind.wrap_i64]; omega) | (intro hh; exfalso; omega) | (refine Eq.trans ?_ rfl; omega)
                  go_simp
                  refine wpAnyH_take (i := 13) (v := .int .i64 (v + (1 + y))) rfl (by kernel_rfl) (by kernel_rfl) (by kernel_rfl) (fun _ _ _ h => h) (Or.inl ⟨by rfl, ?_⟩) trivial ?_
                  · intro W _
                    go_simp <;> first | done | rfl | (rw [IntKind.wrap_i64]; omega) | (intro hh; exfalso; omega) | (refine Eq.trans ?_ rfl; omega)
                  go_simp
                  refine wpAnyH_take (i := 15) (v := .pointer (some ⟨b, s, none⟩)) rfl (by kernel_rfl) (by kernel_rfl) (by kernel_rfl) (fun _ _ _ h => h) (Or.inl ⟨by rfl, ?_⟩) trivial ?_
                  · intro W _
                    go_simp <;> first | done | rfl | (rw [IntKind.wrap_i64]; omega) | (intro hh; exfalso; omega) | (refine Eq.trans ?_ rfl; omega)
                  go_simp
                  refine wpAnyH_ready (rs := [16]) (by kernel_rfl) (by simp) ?_
                  refine AllReadyH.cons rfl (fun K1 hK1 => ?_) AllReadyH.nil
                  have c22 := HBc.out.seed hT3.out (i := s) (by omega)
                  have f22 := HBc.out.frozen s
                  have HBn : Hid (∀ y : Int, Blk (World.setCell _ ⟨b, s, none⟩ (.int .i64 y)) b 46 (bdL (((T.set q 0).set r 0).set s y) p u)) := hide (fun y => by rw [← bdL_set _ _ _ _ _ hT3.out (by omega)]; exact HBc.out.set s y)
                  have HKn : Hid (∀ v, Keeps (fun j => j = b) w0 (World.setCell _ ⟨b, s, none⟩ v)) := hide (fun v => HKc.out.setCell rfl v)
                  clear HBc HKc
                  have HBc := hide (HBn.out (v + (1 + y)))
                  have HKc := hide (HKn.out (.int .i64 (v + (1 + y))))
                  clear HBn HKn
                  go_simp
                  refine hK1.out _ _ trivial (fun _ => ?_)
                  clear hK1 K1
                  go_simp
                  clear c22 f22
                  refine wpAnyH_done (by kernel_rfl) ?_ _
                  go_wp2_with fail
                  go_meet
                  case rel => exact ⟨HE.out _ HBc.out, HKc⟩
                refine AllReadyH.cons rfl (fun K1 hK1 => ?_) AllReadyH.nil
                go_simp
                refine (across_any (T.set q 0) hT2.out p u q hp hqp _).mono ?_
                rintro e W ⟨rfl, hw⟩
                have HBn := hide (HBc.out.below hw HBc.out.lt)
                have HKn := hide (HKc.out.grow hw)
                clear HBc HKc hw
                have HBc := HBn
                have HKc := HKn
                clear HBn HKn
                rw [HR.out]
                refine hK1.out _ _ trivial (fun _ => ?_)
                clear hK1 K1
                go_simp
                refine wpAnyH_ready (rs := [5, 11]) (by kernel_rfl) (by simp) ?_
                refine AllReadyH.cons rfl (fun K1 hK1 => ?_) ?_
                · have c9 := HBc.out.seed hT2.out (i := s) (by omega)
                  rw [HV2.out] at c9
                  go_simp
                  refine hK1.out _ _ trivial (fun _ => ?_)
                  clear hK1 K1
                  go_simp
                  clear c9
                  refine wpAnyH_ready (rs := [11]) (by kernel_rfl) (by simp) ?_
                  refine AllReadyH.cons rfl (fun K1 hK1 => ?_) AllReadyH.nil
                  go_simp
                  refine (take_any (T.set q 0) hT2.out p u r (by omega) _ b HBc.out).mono ?_
                  rintro e W ⟨rfl, hb', hk'⟩
                  have HBn := hide hb'
                  have HKn := hide (HKc.out.trans hk')
                  clear HBc HKc hb' hk'
                  have HBc := HBn
                  have HKc := HKn
                  clear HBn HKn
                  rw [HY2.out]
                  refine hK1.out _ _ trivial (fun _ => ?_)
                  clear hK1 K1
                  go_simp
                  refine wpAnyH_take (i := 12) (v := .int .i64 (1 + y)) rfl (by kernel_rfl) (by kernel_rfl) (by kernel_rfl) (fun _ _ _ h => h) (Or.inl ⟨by rfl, ?_⟩) trivial ?_
                  · intro W _
                    go_simp <;> first | done | rfl | (rw [IntKind.wrap_i64]; omega) | (intro hh; exfalso; omega) | (refine Eq.trans ?_ rfl; omega)
                  go_simp
                  refine wpAnyH_take (i := 13) (v := .int .i64 (v + (1 + y))) rfl (by kernel_rfl) (by kernel_rfl) (by kernel_rfl) (fun _ _ _ h => h) (Or.inl ⟨by rfl, ?_⟩) trivial ?_
                  · intro W _
                    go_simp <;> first | done | rfl | (rw [IntKind.wrap_i64]; omega) | (intro hh; exfalso; omega) | (refine Eq.trans ?_ rfl; omega)
                  go_simp
                  refine wpAnyH_take (i := 15) (v := .pointer (some ⟨b, s, none⟩)) rfl (by kernel_rfl) (by kernel_rfl) (by kernel_rfl) (fun _ _ _ h => h) (Or.inl ⟨by rfl, ?_⟩) trivial ?_
                  · intro W _
                    go_simp <;> first | done | rfl | (rw [IntKind.wrap_i64]; omega) | (intro hh; exfalso; omega) | (refine Eq.trans ?_ rfl; omega)
                  go_simp
                  refine wpAnyH_ready (rs := [16]) (by kernel_rfl) (by simp) ?_
                  refine AllReadyH.cons rfl (fun K1 hK1 => ?_) AllReadyH.nil
                  have c22 := HBc.out.seed hT3.out (i := s) (by omega)
                  have f22 := HBc.out.frozen s
                  have HBn : Hid (∀ y : Int, Blk (World.setCell _ ⟨b, s, none⟩ (.int .i64 y)) b 46 (bdL (((T.set q 0).set r 0).set s y) p u)) := hide (fun y => by rw [← bdL_set _ _ _ _ _ hT3.out (by omega)]; exact HBc.out.set s y)
                  have HKn : Hid (∀ v, Keeps (fun j => j = b) w0 (World.setCell _ ⟨b, s, none⟩ v)) := hide (fun v => HKc.out.setCell rfl v)
                  clear HBc HKc
                  have HBc := hide (HBn.out (v + (1 + y)))
                  have HKc := hide (HKn.out (.int .i64 (v + (1 + y))))
                  clear HBn HKn
                  go_simp
                  refine hK1.out _ _ trivial (fun _ => ?_)
                  clear hK1 K1
                  go_simp
                  clear c22 f22
                  refine wpAnyH_done (by kernel_rfl) ?_ _
                  go_wp2_with fail
                  go_meet
                  case rel => exact ⟨HE.out _ HBc.out, HKc⟩
                refine AllReadyH.cons rfl (fun K1 hK1 => ?_) AllReadyH.nil
                go_simp
                refine (take_any (T.set q 0) hT2.out p u r (by omega) _ b HBc.out).mono ?_
                rintro e W ⟨rfl, hb', hk'⟩
                have HBn := hide hb'
                have HKn := hide (HKc.out.trans hk')
                clear HBc HKc hb' hk'
                have HBc := HBn
                have HKc := HKn
                clear HBn HKn
                rw [HY2.out]
                refine hK1.out _ _ trivial (fun _ => ?_)
                clear hK1 K1
                go_simp
                refine wpAnyH_take (i := 12) (v := .int .i64 (1 + y)) rfl (by kernel_rfl) (by kernel_rfl) (by kernel_rfl) (fun _ _ _ h => h) (Or.inl ⟨by rfl, ?_⟩) trivial ?_
                · intro W _
                  go_simp <;> first | done | rfl | (rw [IntKind.wrap_i64]; omega) | (intro hh; exfalso; omega) | (refine Eq.trans ?_ rfl; omega)
                go_simp
                refine wpAnyH_ready (rs := [5]) (by kernel_rfl) (by simp) ?_
                refine AllReadyH.cons rfl (fun K1 hK1 => ?_) AllReadyH.nil
                have c9 := HBc.out.seed hT3.out (i := s) (by omega)
                rw [HV3.out] at c9
                go_simp
                refine hK1.out _ _ trivial (fun _ => ?_)
                clear hK1 K1
                go_simp
                clear c9
                refine wpAnyH_take (i := 13) (v := .int .i64 (v + (1 + y))) rfl (by kernel_rfl) (by kernel_rfl) (by kernel_rfl) (fun _ _ _ h => h) (Or.inl ⟨by rfl, ?_⟩) trivial ?_
                · intro W _
                  go_simp <;> first | done | rfl | (rw [IntKind.wrap_i64]; omega) | (intro hh; exfalso; omega) | (refine Eq.trans ?_ rfl; omega)
                go_simp
                refine wpAnyH_take (i := 15) (v := .pointer (some ⟨b, s, none⟩)) rfl (by kernel_rfl) (by kernel_rfl) (by kernel_rfl) (fun _ _ _ h => h) (Or.inl ⟨by rfl, ?_⟩) trivial ?_
                · intro W _
                  go_simp <;> first | done | rfl | (rw [IntKind.wrap_i64]; omega) | (intro hh; exfalso; omega) | (refine Eq.trans ?_ rfl; omega)
                go_simp
                refine wpAnyH_ready (rs := [16]) (by kernel_rfl) (by simp) ?_
                refine AllReadyH.cons rfl (fun K1 hK1 => ?_) AllReadyH.nil
                have c22 := HBc.out.seed hT3.out (i := s) (by omega)
                have f22 := HBc.out.frozen s
                have HBn : Hid (∀ y : Int, Blk (World.setCell _ ⟨b, s, none⟩ (.int .i64 y)) b 46 (bdL (((T.set q 0).set r 0).set s y) p u)) := hide (fun y => by rw [← bdL_set _ _ _ _ _ hT3.out (by omega)]; exact HBc.out.set s y)
                have HKn : Hid (∀ v, Keeps (fun j => j = b) w0 (World.setCell _ ⟨b, s, none⟩ v)) := hide (fun v => HKc.out.setCell rfl v)
                clear HBc HKc
                have HBc := hide (HBn.out (v + (1 + y)))
                have HKc := hide (HKn.out (.int .i64 (v + (1 + y))))
                clear HBn HKn
                go_simp
                refine hK1.out _ _ trivial (fun _ => ?_)
                clear hK1 K1
                go_simp
                clear c22 f22
                refine wpAnyH_done (by kernel_rfl) ?_ _
                go_wp2_with fail
                go_meet
                case rel => exact ⟨HE.out _ HBc.out, HKc⟩
              refine AllReadyH.cons rfl (fun K1 hK1 => ?_) AllReadyH.nil
              rw [if_pos (by rfl)]
              refine wp_load_mid 46 _ rfl b 0 (by rfl) (ivs (bdL T p u)) _ HBc.out.range Try.underlying46 rfl (by rw [ivs_length, bdL_length _ _ _ hT.out]; exact size46) ?_
              refine hK1.out _ _ trivial (fun _ => ?_)
              clear hK1 K1
              go_simp
              refine wpAnyH_ready (rs := [5, 7]) (by kernel_rfl) (by simp) ?_
              refine AllReadyH.cons rfl (fun K1 hK1 => ?_) ?_
              · have c9 := HBc.out.seed hT.out (i := s) (by omega)
                rw [HV.out] at c9
                go_simp
                refine hK1.out _ _ trivial (fun _ => ?_)
                clear hK1 K1
                go_simp
                clear c9
                refine wpAnyH_ready (rs := [7]) (by kernel_rfl) (by simp) ?_
                refine AllReadyH.cons rfl (fun K1 hK1 => ?_) AllReadyH.nil
                go_simp
                refine (take_any T hT.out p u q (by omega) _ b HBc.out).mono ?_
                rintro e W ⟨rfl, hb', hk'⟩
                have HBn := hide hb'
                have HKn := hide (HKc.out.trans hk')
                clear HBc HKc hb' hk'
                have HBc := HBn
                have HKc := HKn
                clear HBn HKn
                rw [H1.out]
                refine hK1.out _ _ trivial (fun _ => ?_)
                clear hK1 K1
                go_simp
                refine wpAnyH_ready (rs := [10]) (by kernel_rfl) (by simp) ?_
                refine AllReadyH.cons rfl (fun K1 hK1 => ?_) AllReadyH.nil
                go_simp
                refine (across_any T hT.out p u q hp hqp _).mono ?_
                rintro e W ⟨rfl, hw⟩
                have HBn := hide (HBc.out.below hw HBc.out.lt)
                have HKn := hide (HKc.out.grow hw)
                clear HBc HKc hw
                have HBc := HBn
                have HKc := HKn
                clear HBn HKn
                rw [HR.out]
                refine hK1.out _ _ trivial (fun _ => ?_)
                clear hK1 K1
                go_simp
                refine wpAnyH_ready (rs := [11]) (by kernel_rfl) (by simp) ?_
                refine AllReadyH.cons rfl (fun K1 hK1 => ?_) AllReadyH.nil
                go_simp
                refine (take_any (T.set q 0) hT2.out p u r (by omega) _ b HBc.out).mono ?_
                rintro e W ⟨rfl, hb', hk'⟩
                have HBn := hide hb'
                have HKn := hide (HKc.out.trans hk')
                clear HBc HKc hb' hk'
                have HBc := HBn
                have HKc := HKn
                clear HBn HKn
                rw [HY2.out]
                refine hK1.out _ _ trivial (fun _ => ?_)
                clear hK1 K1
                go_simp
                refine wpAnyH_take (i := 12) (v := .int .i64 (1 + y)) rfl (by kernel_rfl) (by kernel_rfl) (by kernel_rfl) (fun _ _ _ h => h) (Or.inl ⟨by rfl, ?_⟩) trivial ?_
                · intro W _
                  go_simp <;> first | done | rfl | (rw [IntKind.wrap_i64]; omega) | (intro hh; exfalso; omega) | (refine Eq.trans ?_ rfl; omega)
                go_simp
                refine wpAnyH_take (i := 13) (v := .int .i64 (v + (1 + y))) rfl (by kernel_rfl) (by kernel_rfl) (by kernel_rfl) (fun _ _ _ h => h) (Or.inl ⟨by rfl, ?_⟩) trivial ?_
                · intro W _
                  go_simp <;> first | done | rfl | (rw [IntKind.wrap_i64]; omega) | (intro hh; exfalso; omega) | (refine Eq.trans ?_ rfl; omega)
                go_simp
                refine wpAnyH_take (i := 15) (v := .pointer (some ⟨b, s, none⟩)) rfl (by kernel_rfl) (by kernel_rfl) (by kernel_rfl) (fun _ _ _ h => h) (Or.inl ⟨by rfl, ?_⟩) trivial ?_
                · intro W _
                  go_simp <;> first | done | rfl | (rw [IntKind.wrap_i64]; omega) | (intro hh; exfalso; omega) | (refine Eq.trans ?_ rfl; omega)
                go_simp
                refine wpAnyH_ready (rs := [16]) (by kernel_rfl) (by simp) ?_
                refine AllReadyH.cons rfl (fun K1 hK1 => ?_) AllReadyH.nil
                have c22 := HBc.out.seed hT3.out (i := s) (by omega)
                have f22 := HBc.out.frozen s
                have HBn : Hid (∀ y : Int, Blk (World.setCell _ ⟨b, s, none⟩ (.int .i64 y)) b 46 (bdL (((T.set q 0).set r 0).set s y) p u)) := hide (fun y => by rw [← bdL_set _ _ _ _ _ hT3.out (by omega)]; exact HBc.out.set s y)
                have HKn : Hid (∀ v, Keeps (fun j => j = b) w0 (World.setCell _ ⟨b, s, none⟩ v)) := hide (fun v => HKc.out.setCell rfl v)
                clear HBc HKc
                have HBc := hide (HBn.out (v + (1 + y)))
                have HKc := hide (HKn.out (.int .i64 (v + (1 + y))))
                clear HBn HKn
                go_simp
                refine hK1.out _ _ trivial (fun _ => ?_)
                clear hK1 K1
                go_simp
                clear c22 f22
                refine wpAnyH_done (by kernel_rfl) ?_ _
                go_wp2_with fail
                go_meet
                case rel => exact ⟨HE.out _ HBc.out, HKc⟩
              refine AllReadyH.cons rfl (fun K1 hK1 => ?_) AllReadyH.nil
              go_simp
              refine (take_any T hT.out p u q (by omega) _ b HBc.out).mono ?_
              rintro e W ⟨rfl, hb', hk'⟩
              have HBn := hide hb'
              have HKn := hide (HKc.out.trans hk')
              clear HBc HKc hb' hk'
              have HBc := HBn
              have HKc := HKn
              clear HBn HKn
              rw [H1.out]
              refine hK1.out _ _ trivial (fun _ => ?_)
              clear hK1 K1
              go_simp
              refine wpAnyH_ready (rs := [5, 10]) (by kernel_rfl) (by simp) ?_
              refine AllReadyH.cons rfl (fun K1 hK1 => ?_) ?_
              · have c9 := HBc.out.seed hT2.out (i := s) (by omega)
                rw [HV2.out] at c9
                go_simp
                refine hK1.out _ _ trivial (fun _ => ?_)
                clear hK1 K1
                go_simp
                clear c9
                refine wpAnyH_ready (rs := [10]) (by kernel_rfl) (by simp) ?_
                refine AllReadyH.cons rfl (fun K1 hK1 => ?_) AllReadyH.nil
                go_simp
                refine (across_any T hT.out p u q hp hqp _).mono ?_
                rintro e W ⟨rfl, hw⟩
                have HBn := hide (HBc.out.below hw HBc.out.lt)
                have HKn := hide (HKc.out.grow hw)
                clear HBc HKc hw
                have HBc := HBn
                have HKc := HKn
                clear HBn HKn
                rw [HR.out]
                refine hK1.out _ _ trivial (fun _ => ?_)
                clear hK1 K1
                go_simp
                refine wpAnyH_ready (rs := [11]) (by kernel_rfl) (by simp) ?_
                refine AllReadyH.cons rfl (fun K1 hK1 => ?_) AllReadyH.nil
                go_simp
                refine (take_any (T.set q 0) hT2.out p u r (by omega) _ b HBc.out).mono ?_
                rintro e W ⟨rfl, hb', hk'⟩
                have HBn := hide hb'
                have HKn := hide (HKc.out.trans hk')
                clear HBc HKc hb' hk'
                have HBc := HBn
                have HKc := HKn
                clear HBn HKn
                rw [HY2.out]
                refine hK1.out _ _ trivial (fun _ => ?_)
                clear hK1 K1
                go_simp
                refine wpAnyH_take (i := 12) (v := .int .i64 (1 + y)) rfl (by kernel_rfl) (by kernel_rfl) (by kernel_rfl) (fun _ _ _ h => h) (Or.inl ⟨by rfl, ?_⟩) trivial ?_
                · intro W _
                  go_simp <;> first | done | rfl | (rw [IntKind.wrap_i64]; omega) | (intro hh; exfalso; omega) | (refine Eq.trans ?_ rfl; omega)
                go_simp
                refine wpAnyH_take (i := 13) (v := .int .i64 (v + (1 + y))) rfl (by kernel_rfl) (by kernel_rfl) (by kernel_rfl) (fun _ _ _ h => h) (Or.inl ⟨by rfl, ?_⟩) trivial ?_
                · intro W _
                  go_simp <;> first | done | rfl | (rw [IntKind.wrap_i64]; omega) | (intro hh; exfalso; omega) | (refine Eq.trans ?_ rfl; omega)
                go_simp
                refine wpAnyH_take (i := 15) (v := .pointer (some ⟨b, s, none⟩)) rfl (by kernel_rfl) (by kernel_rfl) (by kernel_rfl) (fun _ _ _ h => h) (Or.inl ⟨by rfl, ?_⟩) trivial ?_
                · intro W _
                  go_simp <;> first | done | rfl | (rw [IntKind.wrap_i64]; omega) | (intro hh; exfalso; omega) | (refine Eq.trans ?_ rfl; omega)
                go_simp
                refine wpAnyH_ready (rs := [16]) (by kernel_rfl) (by simp) ?_
                refine AllReadyH.cons rfl (fun K1 hK1 => ?_) AllReadyH.nil
                have c22 := HBc.out.seed hT3.out (i := s) (by omega)
                have f22 := HBc.out.frozen s
                have HBn : Hid (∀ y : Int, Blk (World.setCell _ ⟨b, s, none⟩ (.int .i64 y)) b 46 (bdL (((T.set q 0).set r 0).set s y) p u)) := hide (fun y => by rw [← bdL_set _ _ _ _ _ hT3.out (by omega)]; exact HBc.out.set s y)
                have HKn : Hid (∀ v, Keeps (fun j => j = b) w0 (World.setCell _ ⟨b, s, none⟩ v)) := hide (fun v => HKc.out.setCell rfl v)
                clear HBc HKc
                have HBc := hide (HBn.out (v + (1 + y)))
                have HKc := hide (HKn.out (.int .i64 (v + (1 + y))))
                clear HBn HKn
                go_simp
                refine hK1.out _ _ trivial (fun _ => ?_)
                clear hK1 K1
                go_simp
                clear c22 f22
                refine wpAnyH_done (by kernel_rfl) ?_ _
                go_wp2_with fail
                go_meet
                case rel => exact ⟨HE.out _ HBc.out, HKc⟩
              refine AllReadyH.cons rfl (fun K1 hK1 => ?_) AllReadyH.nil
              go_simp
              refine (across_any T hT.out p u q hp hqp _).mono ?_
              rintro e W ⟨rfl, hw⟩
              have HBn := hide (HBc.out.below hw HBc.out.lt)
              have HKn := hide (HKc.out.grow hw)
              clear HBc HKc hw
              have HBc := HBn
              have HKc := HKn
              clear HBn HKn
              rw [HR.out]
              refine hK1.out _ _ trivial (fun _ => ?_)
              clear hK1 K1
              go_simp
              refine wpAnyH_ready (rs := [5, 11]) (by kernel_rfl) (by simp) ?_
              refine AllReadyH.cons rfl (fun K1 hK1 => ?_) ?_
              · have c9 := HBc.out.seed hT2.out (i := s) (by omega)
                rw [HV2.out] at c9
                go_simp
                refine hK1.out _ _ trivial (fun _ => ?_)
                clear hK1 K1
                go_simp
                clear c9
                refine wpAnyH_ready (rs := [11]) (by kernel_rfl) (by simp) ?_
                refine AllReadyH.cons rfl (fun K1 hK1 => ?_) AllReadyH.nil
                go_simp
                refine (take_any (T.set q 0) hT2.out p u r (by omega) _ b HBc.out).mono ?_
                rintro e W ⟨rfl, hb', hk'⟩
                have HBn := hide hb'
                have HKn := hide (HKc.out.trans hk')
                clear HBc HKc hb' hk'
                have HBc := HBn
                have HKc := HKn
                clear HBn HKn
                rw [HY2.out]
                refine hK1.out _ _ trivial (fun _ => ?_)
                clear hK1 K1
                go_simp
                refine wpAnyH_take (i := 12) (v := .int .i64 (1 + y)) rfl (by kernel_rfl) (by kernel_rfl) (by kernel_rfl) (fun _ _ _ h => h) (Or.inl ⟨by rfl, ?_⟩) trivial ?_
                · intro W _
                  go_simp <;> first | done | rfl | (rw [IntKind.wrap_i64]; omega) | (intro hh; exfalso; omega) | (refine Eq.trans ?_ rfl; omega)
                go_simp
                refine wpAnyH_take (i := 13) (v := .int .i64 (v + (1 + y))) rfl (by kernel_rfl) (by kernel_rfl) (by kernel_rfl) (fun _ _ _ h => h) (Or.inl ⟨by rfl, ?_⟩) trivial ?_
                · intro W _
                  go_simp <;> first | done | rfl | (rw [IntKind.wrap_i64]; omega) | (intro hh; exfalso; omega) | (refine Eq.trans ?_ rfl; omega)
                go_simp
                refine wpAnyH_take (i := 15) (v := .pointer (some ⟨b, s, none⟩)) rfl (by kernel_rfl) (by kernel_rfl) (by kernel_rfl) (fun _ _ _ h => h) (Or.inl ⟨by rfl, ?_⟩) trivial ?_
                · intro W _
                  go_simp <;> first | done | rfl | (rw [IntKind.wrap_i64]; omega) | (intro hh; exfalso; omega) | (refine Eq.trans ?_ rfl; omega)
                go_simp
                refine wpAnyH_ready (rs := [16]) (by kernel_rfl) (by simp) ?_
                refine AllReadyH.cons rfl (fun K1 hK1 => ?_) AllReadyH.nil
                have c22 := HBc.out.seed hT3.out (i := s) (by omega)
                have f22 := HBc.out.frozen s
                have HBn : Hid (∀ y : Int, Blk (World.setCell _ ⟨b, s, none⟩ (.int .i64 y)) b 46 (bdL (((T.set q 0).set r 0).set s y) p u)) := hide (fun y => by rw [← bdL_set _ _ _ _ _ hT3.out (by omega)]; exact HBc.out.set s y)
                have HKn : Hid (∀ v, Keeps (fun j => j = b) w0 (World.setCell _ ⟨b, s, none⟩ v)) := hide (fun v => HKc.out.setCell rfl v)
                clear HBc HKc
                have HBc := hide (HBn.out (v + (1 + y)))
                have HKc := hide (HKn.out (.int .i64 (v + (1 + y))))
                clear HBn HKn
                go_simp
                refine hK1.out _ _ trivial (fun _ => ?_)
                clear hK1 K1
                go_simp
                clear c22 f22
                refine wpAnyH_done (by kernel_rfl) ?_ _
                go_wp2_with fail
                go_meet
                case rel => exact ⟨HE.out _ HBc.out, HKc⟩
              refine AllReadyH.cons rfl (fun K1 hK1 => ?_) AllReadyH.nil
              go_simp
              refine (take_any (T.set q 0) hT2.out p u r (by omega) _ b HBc.out).mono ?_
              rintro e W ⟨rfl, hb', hk'⟩
              have HBn := hide hb'
              have HKn := hide (HKc.out.trans hk')
              clear HBc HKc hb' hk'
              have HBc := HBn
              have HKc := HKn
              clear HBn HKn
              rw [HY2.out]
              refine hK1.out _ _ trivial (fun _ => ?_)
              clear hK1 K1
              go_simp
              refine wpAnyH_take (i := 12) (v := .int .i64 (1 + y)) rfl (by kernel_rfl) (by kernel_rfl) (by kernel_rfl) (fun _ _ _ h => h) (Or.inl ⟨by rfl, ?_⟩) trivial ?_
              · intro W _
                go_simp <;> first | done | rfl | (rw [IntKind.wrap_i64]; omega) | (intro hh; exfalso; omega) | (refine Eq.trans ?_ rfl; omega)
              go_simp
              refine wpAnyH_ready (rs := [5]) (by kernel_rfl) (by simp) ?_
              refine AllReadyH.cons rfl (fun K1 hK1 => ?_) AllReadyH.nil
              have c9 := HBc.out.seed hT3.out (i := s) (by omega)
              rw [HV3.out] at c9
              go_simp
              refine hK1.out _ _ trivial (fun _ => ?_)
              clear hK1 K1
              go_simp
              clear c9
              refine wpAnyH_take (i := 13) (v := .int .i64 (v + (1 + y))) rfl (by kernel_rfl) (by kernel_rfl) (by kernel_rfl) (fun _ _ _ h => h) (Or.inl ⟨by rfl, ?_⟩) trivial ?_
              · intro W _
                go_simp <;> first | done | rfl | (rw [IntKind.wrap_i64]; omega) | (intro hh; exfalso; omega) | (refine Eq.trans ?_ rfl; omega)
              go_simp
              refine wpAnyH_take (i := 15) (v := .pointer (some ⟨b, s, none⟩)) rfl (by kernel_rfl) (by kernel_rfl) (by kernel_rfl) (fun _ _ _ h => h) (Or.inl ⟨by rfl, ?_⟩) trivial ?_
              · intro W _
                go_simp <;> first | done | rfl | (rw [IntKind.wrap_i64]; omega) | (intro hh; exfalso; omega) | (refine Eq.trans ?_ rfl; omega)
              go_simp
              refine wpAnyH_ready (rs := [16]) (by kernel_rfl) (by simp) ?_
              refine AllReadyH.cons rfl (fun K1 hK1 => ?_) AllReadyH.nil
              have c22 := HBc.out.seed hT3.out (i := s) (by omega)
              have f22 := HBc.out.frozen s
              have HBn : Hid (∀ y : Int, Blk (World.setCell _ ⟨b, s, none⟩ (.int .i64 y)) b 46 (bdL (((T.set q 0).set r 0).set s y) p u)) := hide (fun y => by rw [← bdL_set _ _ _ _ _ hT3.out (by omega)]; exact HBc.out.set s y)
              have HKn : Hid (∀ v, Keeps (fun j => j = b) w0 (World.setCell _ ⟨b, s, none⟩ v)) := hide (fun v => HKc.out.setCell rfl v)
              clear HBc HKc
              have HBc := hide (HBn.out (v + (1 + y)))
              have HKc := hide (HKn.out (.int .i64 (v + (1 + y))))
              clear HBn HKn
              go_simp
              refine hK1.out _ _ trivial (fun _ => ?_)
              clear hK1 K1
              go_simp
              clear c22 f22
              refine wpAnyH_done (by kernel_rfl) ?_ _
              go_wp2_with fail
              go_meet
              case rel => exact ⟨HE.out _ HBc.out, HKc⟩
            refine AllReadyH.cons rfl (fun K1 hK1 => ?_) AllReadyH.nil
            rw [if_pos (by rfl)]
            refine wp_load_mid 46 _ rfl b 0 (by rfl) (ivs (bdL T p u)) _ HBc.out.range Try.underlying46 rfl (by rw [ivs_length, bdL_length _ _ _ hT.out]; exact size46) ?_
            refine hK1.out _ _ trivial (fun _ => ?_)
            clear hK1 K1
            go_simp
            refine wpAnyH_ready (rs := [2]) (by kernel_rfl) (by simp) ?_
            refine AllReadyH.cons rfl (fun K1 hK1 => ?_) AllReadyH.nil
            go_simp
            refine (store_any T hT.out p u t hp ht _).mono ?_
            rintro e W ⟨rfl, hw⟩
            have HBn := hide (HBc.out.below hw HBc.out.lt)
            have HKn := hide (HKc.out.grow hw)
            clear HBc HKc hw
            have HBc := HBn
            have HKc := HKn
            clear HBn HKn
            rw [HST.out]
            refine hK1.out _ _ trivial (fun _ => ?_)
            clear hK1 K1
            go_simp
            refine wpAnyH_take (i := 4) (v := .pointer (some ⟨b, s, none⟩)) rfl (by kernel_rfl) (by kernel_rfl) (by kernel_rfl) (fun _ _ _ h => h) (Or.inl ⟨by rfl, ?_⟩) trivial ?_
            · intro W _
              go_simp <;> first | done | rfl | (rw [IntKind.wrap_i64]; omega) | (intro hh; exfalso; omega) | (refine Eq.trans ?_ rfl; omega)
            go_simp
            refine wpAnyH_ready (rs := [5, 7]) (by kernel_rfl) (by simp) ?_
            refine AllReadyH.cons rfl (fun K1 hK1 => ?_) ?_
            · have c9 := HBc.out.seed hT.out (i := s) (by omega)
              rw [HV.out] at c9
              go_simp
              refine hK1.out _ _ trivial (fun _ => ?_)
              clear hK1 K1
              go_simp
              clear c9
              refine wpAnyH_ready (rs := [7]) (by kernel_rfl) (by simp) ?_
              refine AllReadyH.cons rfl (fun K1 hK1 => ?_) AllReadyH.nil
              go_simp
              refine (take_any T hT.out p u q (by omega) _ b HBc.out).mono ?_
              rintro e W ⟨rfl, hb', hk'⟩
              have HBn := hide hb'
              have HKn := hide (HKc.out.trans hk')
              clear HBc HKc hb' hk'
              have HBc := HBn
              have HKc := HKn
              clear HBn HKn
              rw [H1.out]
              refine hK1.out _ _ trivial (fun _ => ?_)
              clear hK1 K1
              go_simp
              refine wpAnyH_ready (rs := [10]) (by kernel_rfl) (by simp) ?_
              refine AllReadyH.cons rfl (fun K1 hK1 => ?_) AllReadyH.nil
              go_simp
              refine (across_any T hT.out p u q hp hqp _).mono ?_
              rintro e W ⟨rfl, hw⟩
              have HBn := hide (HBc.out.below hw HBc.out.lt)
              have HKn := hide (HKc.out.grow hw)
              clear HBc HKc hw
              have HBc := HBn
              have HKc := HKn
              clear HBn HKn
              rw [HR.out]
              refine hK1.out _ _ trivial (fun _ => ?_)
              clear hK1 K1
              go_simp
              refine wpAnyH_ready (rs := [11]) (by kernel_rfl) (by simp) ?_
              refine AllReadyH.cons rfl (fun K1 hK1 => ?_) AllReadyH.nil
              go_simp
              refine (take_any (T.set q 0) hT2.out p u r (by omega) _ b HBc.out).mono ?_
              rintro e W ⟨rfl, hb', hk'⟩
              have HBn := hide hb'
              have HKn := hide (HKc.out.trans hk')
              clear HBc HKc hb' hk'
              have HBc := HBn
              have HKc := HKn
              clear HBn HKn
              rw [HY2.out]
              refine hK1.out _ _ trivial (fun _ => ?_)
              clear hK1 K1
              go_simp
              refine wpAnyH_take (i := 12) (v := .int .i64 (1 + y)) rfl (by kernel_rfl) (by kernel_rfl) (by kernel_rfl) (fun _ _ _ h => h) (Or.inl ⟨by rfl, ?_⟩) trivial ?_
              · intro W _
                go_simp <;> first | done | rfl | (rw [IntKind.wrap_i64]; omega) | (intro hh; exfalso; omega) | (refine Eq.trans ?_ rfl; omega)
              go_simp
              refine wpAnyH_take (i := 13) (v := .int .i64 (v + (1 + y))) rfl (by kernel_rfl) (by kernel_rfl) (by kernel_rfl) (fun _ _ _ h => h) (Or.inl ⟨by rfl, ?_⟩) trivial ?_
              · intro W _
                go_simp <;> first | done | rfl | (rw [IntKind.wrap_i64]; omega) | (intro hh; exfalso; omega) | (refine Eq.trans ?_ rfl; omega)
              go_simp
              refine wpAnyH_take (i := 15) (v := .pointer (some ⟨b, s, none⟩)) rfl (by kernel_rfl) (by kernel_rfl) (by kernel_rfl) (fun _ _ _ h => h) (Or.inl ⟨by rfl, ?_⟩) trivial ?_
              · intro W _
                go_simp <;> first | done | rfl | (rw [IntKind.wrap_i64]; omega) | (intro hh; exfalso; omega) | (refine Eq.trans ?_ rfl; omega)
              go_simp
              refine wpAnyH_ready (rs := [16]) (by kernel_rfl) (by simp) ?_
              refine AllReadyH.cons rfl (fun K1 hK1 => ?_) AllReadyH.nil
              have c22 := HBc.out.seed hT3.out (i := s) (by omega)
              have f22 := HBc.out.frozen s
              have HBn : Hid (∀ y : Int, Blk (World.setCell _ ⟨b, s, none⟩ (.int .i64 y)) b 46 (bdL (((T.set q 0).set r 0).set s y) p u)) := hide (fun y => by rw [← bdL_set _ _ _ _ _ hT3.out (by omega)]; exact HBc.out.set s y)
              have HKn : Hid (∀ v, Keeps (fun j => j = b) w0 (World.setCell _ ⟨b, s, none⟩ v)) := hide (fun v => HKc.out.setCell rfl v)
              clear HBc HKc
              have HBc := hide (HBn.out (v + (1 + y)))
              have HKc := hide (HKn.out (.int .i64 (v + (1 + y))))
              clear HBn HKn
              go_simp
              refine hK1.out _ _ trivial (fun _ => ?_)
              clear hK1 K1
              go_simp
              clear c22 f22
              refine wpAnyH_done (by kernel_rfl) ?_ _
              go_wp2_with fail
              go_meet
              case rel => exact ⟨HE.out _ HBc.out, HKc⟩
            refine AllReadyH.cons rfl (fun K1 hK1 => ?_) AllReadyH.nil
            go_simp
            refine (take_any T hT.out p u q (by omega) _ b HBc.out).mono ?_
            rintro e W ⟨rfl, hb', hk'⟩
            have HBn := hide hb'
            have HKn := hide (HKc.out.trans hk')
            clear HBc HKc hb' hk'
            have HBc := HBn
            have HKc := HKn
            clear HBn HKn
            rw [H1.out]
            refine hK1.out _ _ trivial (fun _ => ?_)
            clear hK1 K1
            go_simp
            refine wpAnyH_ready (rs := [5, 10]) (by kernel_rfl) (by simp) ?_
            refine AllReadyH.cons rfl (fun K1 hK1 => ?_) ?_
            · have c9 := HBc.out.seed hT2.out (i := s) (by omega)
              rw [HV2.out] at c9
              go_simp
              refine hK1.out _ _ trivial (fun _ => ?_)
              clear hK1 K1
              go_simp
              clear c9
              refine wpAnyH_ready (rs := [10]) (by kernel_rfl) (by simp) ?_
              refine AllReadyH.cons rfl (fun K1 hK1 => ?_) AllReadyH.nil
              go_simp
              refine (across_any T hT.out p u q hp hqp _).mono ?_
              rintro e W ⟨rfl, hw⟩
              have HBn := hide (HBc.out.below hw HBc.out.lt)
              have HKn := hide (HKc.out.grow hw)
              clear HBc HKc hw
              have HBc := HBn
              have HKc := HKn
              clear HBn HKn
              rw [HR.out]
              refine hK1.out _ _ trivial (fun _ => ?_)
              clear hK1 K1
              go_simp
              refine wpAnyH_ready (rs := [11]) (by kernel_rfl) (by simp) ?_
              refine AllReadyH.cons rfl (fun K1 hK1 => ?_) AllReadyH.nil
              go_simp
              refine (take_any (T.set q 0) hT2.out p u r (by omega) _ b HBc.out).mono ?_
              rintro e W ⟨rfl, hb', hk'⟩
              have HBn := hide hb'
              have HKn := hide (HKc.out.trans hk')
              clear HBc HKc hb' hk'
              have HBc := HBn
              have HKc := HKn
              clear HBn HKn
              rw [HY2.out]
              refine hK1.out _ _ trivial (fun _ => ?_)
              clear hK1 K1
              go_simp
              refine wpAnyH_take (i := 12) (v := .int .i64 (1 + y)) rfl (by kernel_rfl) (by kernel_rfl) (by kernel_rfl) (fun _ _ _ h => h) (Or.inl ⟨by rfl, ?_⟩) trivial ?_
              · intro W _
                go_simp <;> first | done | rfl | (rw [IntKind.wrap_i64]; omega) | (intro hh; exfalso; omega) | (refine Eq.trans ?_ rfl; omega)
              go_simp
              refine wpAnyH_take (i := 13) (v := .int .i64 (v + (1 + y))) rfl (by kernel_rfl) (by kernel_rfl) (by kernel_rfl) (fun _ _ _ h => h) (Or.inl ⟨by rfl, ?_⟩) trivial ?_
              · intro W _
                go_simp <;> first | done | rfl | (rw [IntKind.wrap_i64]; omega) | (intro hh; exfalso; omega) | (refine Eq.trans ?_ rfl; omega)
              go_simp
              refine wpAnyH_take (i := 15) (v := .pointer (some ⟨b, s, none⟩)) rfl (by kernel_rfl) (by kernel_rfl) (by kernel_rfl) (fun _ _ _ h => h) (Or.inl ⟨by rfl, ?_⟩) trivial ?_
              · intro W _
                go_simp <;> first | done | rfl | (rw [IntKind.wrap_i64]; omega) | (intro hh; exfalso; omega) | (refine Eq.trans ?_ rfl; omega)
              go_simp
              refine wpAnyH_ready (rs := [16]) (by kernel_rfl) (by simp) ?_
              refine AllReadyH.cons rfl (fun K1 hK1 => ?_) AllReadyH.nil
              have c22 := HBc.out.seed hT3.out (i := s) (by omega)
              have f22 := HBc.out.frozen s
              have HBn : Hid (∀ y : Int, Blk (World.setCell _ ⟨b, s, none⟩ (.int .i64 y)) b 46 (bdL (((T.set q 0).set r 0).set s y) p u)) := hide (fun y => by rw [← bdL_set _ _ _ _ _ hT3.out (by omega)]; exact HBc.out.set s y)
              have HKn : Hid (∀ v, Keeps (fun j => j = b) w0 (World.setCell _ ⟨b, s, none⟩ v)) := hide (fun v => HKc.out.setCell rfl v)
              clear HBc HKc
              have HBc := hide (HBn.out (v + (1 + y)))
              have HKc := hide (HKn.out (.int .i64 (v + (1 + y))))
              clear HBn HKn
              go_simp
              refine hK1.out _ _ trivial (fun _ => ?_)
              clear hK1 K1
              go_simp
              clear c22 f22
              refine wpAnyH_done (by kernel_rfl) ?_ _
              go_wp2_with fail
              go_meet
              case rel => exact ⟨HE.out _ HBc.out, HKc⟩
            refine AllReadyH.cons rfl (fun K1 hK1 => ?_) AllReadyH.nil
            go_simp
            refine (across_any T hT.out p u q hp hqp _).mono ?_
            rintro e W ⟨rfl, hw⟩
            have HBn := hide (HBc.out.below hw HBc.out.lt)
            have HKn := hide (HKc.out.grow hw)
            clear HBc HKc hw
            have HBc := HBn
            have HKc := HKn
            clear HBn HKn
            rw [HR.out]
            refine hK1.out _ _ trivial (fun _ => ?_)
            clear hK1 K1
            go_simp
            refine wpAnyH_ready (rs := [5, 11]) (by kernel_rfl) (by simp) ?_
            refine AllReadyH.cons rfl (fun K1 hK1 => ?_) ?_
            · have c9 := HBc.out.seed hT2.out (i := s) (by omega)
              rw [HV2.out] at c9
              go_simp
              refine hK1.out _ _ trivial (fun _ => ?_)
              clear hK1 K1
              go_simp
              clear c9
              refine wpAnyH_ready (rs := [11]) (by kernel_rfl) (by simp) ?_
              refine AllReadyH.cons rfl (fun K1 hK1 => ?_) AllReadyH.nil
              go_simp
              refine (take_any (T.set q 0) hT2.out p u r (by omega) _ b HBc.out).mono ?_
              rintro e W ⟨rfl, hb', hk'⟩
              have HBn := hide hb'
              have HKn := hide (HKc.out.trans hk')
              clear HBc HKc hb' hk'
              have HBc := HBn
              have HKc := HKn
              clear HBn HKn
              rw [HY2.out]
              refine hK1.out _ _ trivial (fun _ => ?_)
              clear hK1 K1
              go_simp
              refine wpAnyH_take (i := 12) (v := .int .i64 (1 + y)) rfl (by kernel_rfl) (by kernel_rfl) (by kernel_rfl) (fun _ _ _ h => h) (Or.inl ⟨by rfl, ?_⟩) trivial ?_
              · intro W _
                go_simp <;> first | done | rfl | (rw [IntKind.wrap_i64]; omega) | (intro hh; exfalso; omega) | (refine Eq.trans ?_ rfl; omega)
              go_simp
              refine wpAnyH_take (i := 13) (v := .int .i64 (v + (1 + y))) rfl (by kernel_rfl) (by kernel_rfl) (by kernel_rfl) (fun _ _ _ h => h) (Or.inl ⟨by rfl, ?_⟩) trivial ?_
              · intro W _
                go_simp <;> first | done | rfl | (rw [IntKind.wrap_i64]; omega) | (intro hh; exfalso; omega) | (refine Eq.trans ?_ rfl; omega)
              go_simp
              refine wpAnyH_take (i := 15) (v := .pointer (some ⟨b, s, none⟩)) rfl (by kernel_rfl) (by kernel_rfl) (by kernel_rfl) (fun _ _ _ h => h) (Or.inl ⟨by rfl, ?_⟩) trivial ?_
              · intro W _
                go_simp <;> first | done | rfl | (rw [IntKind.wrap_i64]; omega) | (intro hh; exfalso; omega) | (refine Eq.trans ?_ rfl; omega)
              go_simp
              refine wpAnyH_ready (rs := [16]) (by kernel_rfl) (by simp) ?_
              refine AllReadyH.cons rfl (fun K1 hK1 => ?_) AllReadyH.nil
              have c22 := HBc.out.seed hT3.out (i := s) (by omega)
              have f22 := HBc.out.frozen s
              have HBn : Hid (∀ y : Int, Blk (World.setCell _ ⟨b, s, none⟩ (.int .i64 y)) b 46 (bdL (((T.set q 0).set r 0).set s y) p u)) := hide (fun y => by rw [← bdL_set _ _ _ _ _ hT3.out (by omega)]; exact HBc.out.set s y)
              have HKn : Hid (∀ v, Keeps (fun j => j = b) w0 (World.setCell _ ⟨b, s, none⟩ v)) := hide (fun v => HKc.out.setCell rfl v)
              clear HBc HKc
              have HBc := hide (HBn.out (v + (1 + y)))
              have HKc := hide (HKn.out (.int .i64 (v + (1 + y))))
              clear HBn HKn
              go_simp
              refine hK1.out _ _ trivial (fun _ => ?_)
              clear hK1 K1
              go_simp
              clear c22 f22
              refine wpAnyH_done (by kernel_rfl) ?_ _
              go_wp2_with fail
              go_meet
              case rel => exact ⟨HE.out _ HBc.out, HKc⟩
            refine AllReadyH.cons rfl (fun K1 hK1 => ?_) AllReadyH.nil
            go_simp
            refine (take_any (T.set q 0) hT2.out p u r (by omega) _ b HBc.out).mono ?_
            rintro e W ⟨rfl, hb', hk'⟩
            have HBn := hide hb'
            have HKn := hide (HKc.out.trans hk')
            clear HBc HKc hb' hk'
            have HBc := HBn
            have HKc := HKn
            clear HBn HKn
            rw [HY2.out]
            refine hK1.out _ _ trivial (fun _ => ?_)
            clear hK1 K1
            go_simp
            refine wpAnyH_take (i := 12) (v := .int .i64 (1 + y)) rfl (by kernel_rfl) (by kernel_rfl) (by kernel_rfl) (fun _ _ _ h => h) (Or.inl ⟨by rfl, ?_⟩) trivial ?_
            · intro W _
              go_simp <;> first | done | rfl | (rw [IntKind.wrap_i64]; omega) | (intro hh; exfalso; omega) | (refine Eq.trans ?_ rfl; omega)
            go_simp
            refine wpAnyH_ready (rs := [5]) (by kernel_rfl) (by simp) ?_
            refine AllReadyH.cons rfl (fun K1 hK1 => ?_) AllReadyH.nil
            have c9 := HBc.out.seed hT3.out (i := s) (by omega)
            rw [HV3.out] at c9
            go_simp
            refine hK1.out _ _ trivial (fun _ => ?_)
            clear hK1 K1
            go_simp
            clear c9
            refine wpAnyH_take (i := 13) (v := .int .i64 (v + (1 + y))) rfl (by kernel_rfl) (by kernel_rfl) (by kernel_rfl) (fun _ _ _ h => h) (Or.inl ⟨by rfl, ?_⟩) trivial ?_
            · intro W _
              go_simp <;> first | done | rfl | (rw [IntKind.wrap_i64]; omega) | (intro hh; exfalso; omega) | (refine Eq.trans ?_ rfl; omega)
            go_simp
            refine wpAnyH_take (i := 15) (v := .pointer (some ⟨b, s, none⟩)) rfl (by kernel_rfl) (by kernel_rfl) (by kernel_rfl) (fun _ _ _ h => h) (Or.inl ⟨by rfl, ?_⟩) trivial ?_
            · intro W _
              go_simp <;> first | done | rfl | (rw [IntKind.wrap_i64]; omega) | (intro hh; exfalso; omega) | (refine Eq.trans ?_ rfl; omega)
            go_simp
            refine wpAnyH_ready (rs := [16]) (by kernel_rfl) (by simp) ?_
            refine AllReadyH.cons rfl (fun K1 hK1 => ?_) AllReadyH.nil
            have c22 := HBc.out.seed hT3.out (i := s) (by omega)
            have f22 := HBc.out.frozen s
            have HBn : Hid (∀ y : Int, Blk (World.setCell _ ⟨b, s, none⟩ (.int .i64 y)) b 46 (bdL (((T.set q 0).set r 0).set s y) p u)) := hide (fun y => by rw [← bdL_set _ _ _ _ _ hT3.out (by omega)]; exact HBc.out.set s y)
            have HKn : Hid (∀ v, Keeps (fun j => j = b) w0 (World.setCell _ ⟨b, s, none⟩ v)) := hide (fun v => HKc.out.setCell rfl v)
            clear HBc HKc
            have HBc := hide (HBn.out (v + (1 + y)))
            have HKc := hide (HKn.out (.int .i64 (v + (1 + y))))
            clear HBn HKn
            go_simp
            refine hK1.out _ _ trivial (fun _ => ?_)
            clear hK1 K1
            go_simp
            clear c22 f22
            refine wpAnyH_done (by kernel_rfl) ?_ _
            go_wp2_with fail
            go_meet
            case rel => exact ⟨HE.out _ HBc.out, HKc⟩
          refine AllReadyH.cons rfl (fun K1 hK1 => ?_) AllReadyH.nil
          rw [if_pos (by rfl)]
          refine wp_load_mid 46 _ rfl b 0 (by rfl) (ivs (bdL T p u)) _ HBc.out.range Try.underlying46 rfl (by rw [ivs_length, bdL_length _ _ _ hT.out]; exact size46) ?_
          refine hK1.out _ _ trivial (fun _ => ?_)
          clear hK1 K1
          go_simp
          refine wpAnyH_ready (rs := [0]) (by kernel_rfl) (by simp) ?_
          refine AllReadyH.cons rfl (fun K1 hK1 => ?_) AllReadyH.nil
          rw [if_pos (by rfl)]
          refine wp_load_mid 46 _ rfl b 0 (by rfl) (ivs (bdL T p u)) _ HBc.out.range Try.underlying46 rfl (by rw [ivs_length, bdL_length _ _ _ hT.out]; exact size46) ?_
          refine hK1.out _ _ trivial (fun _ => ?_)
          clear hK1 K1
          go_simp
          refine wpAnyH_ready (rs := [2]) (by kernel_rfl) (by simp) ?_
          refine AllReadyH.cons rfl (fun K1 hK1 => ?_) AllReadyH.nil
          go_simp
          refine (store_any T hT.out p u t hp ht _).mono ?_
          rintro e W ⟨rfl, hw⟩
          have HBn := hide (HBc.out.below hw HBc.out.lt)
          have HKn := hide (HKc.out.grow hw)
          clear HBc HKc hw
          have HBc := HBn
          have HKc := HKn
          clear HBn HKn
          rw [HST.out]
          refine hK1.out _ _ trivial (fun _ => ?_)
          clear hK1 K1
          go_simp
          refine wpAnyH_take (i := 4) (v := .pointer (some ⟨b, s, none⟩)) rfl (by kernel_rfl) (by kernel_rfl) (by kernel_rfl) (fun _ _ _ h => h) (Or.inl ⟨by rfl, ?_⟩) trivial ?_
          · intro W _
            go_simp <;> first | done | rfl | (rw [IntKind.wrap_i64]; omega) | (intro hh; exfalso; omega) | (refine Eq.trans ?_ rfl; omega)
          go_simp
          refine wpAnyH_ready (rs := [5, 7]) (by kernel_rfl) (by simp) ?_
          refine AllReadyH.cons rfl (fun K1 hK1 => ?_) ?_
          · have c9 := HBc.out.seed hT.out (i := s) (by omega)
            rw [HV.out] at c9
            go_simp
            refine hK1.out _ _ trivial (fun _ => ?_)
            clear hK1 K1
            go_simp
            clear c9
            refine wpAnyH_ready (rs := [7]) (by kernel_rfl) (by simp) ?_
            refine AllReadyH.cons rfl (fun K1 hK1 => ?_) AllReadyH.nil
            go_simp
            refine (take_any T hT.out p u q (by omega) _ b HBc.out).mono ?_
            rintro e W ⟨rfl, hb', hk'⟩
            have HBn := hide hb'
            have HKn := hide (HKc.out.trans hk')
            clear HBc HKc hb' hk'
            have HBc := HBn
            have HKc := HKn
            clear HBn HKn
            rw [H1.out]
            refine hK1.out _ _ trivial (fun _ => ?_)
            clear hK1 K1
            go_simp
            refine wpAnyH_ready (rs := [10]) (by kernel_rfl) (by simp) ?_
            refine AllReadyH.cons rfl (fun K1 hK1 => ?_) AllReadyH.nil
            go_simp
            refine (across_any T hT.out p u q hp hqp _).mono ?_
            rintro e W ⟨rfl, hw⟩
            have HBn := hide (HBc.out.below hw HBc.out.lt)
            have HKn := hide (HKc.out.grow hw)
            clear HBc HKc hw
            have HBc := HBn
            have HKc := HKn
            clear HBn HKn
            rw [HR.out]
            refine hK1.out _ _ trivial (fun _ => ?_)
            clear hK1 K1
            go_simp
            refine wpAnyH_ready (rs := [11]) (by kernel_rfl) (by simp) ?_
            refine AllReadyH.cons rfl (fun K1 hK1 => ?_) AllReadyH.nil
            go_simp
            refine (take_any (T.set q 0) hT2.out p u r (by omega) _ b HBc.out).mono ?_
            rintro e W ⟨rfl, hb', hk'⟩
            have HBn := hide hb'
            have HKn := hide (HKc.out.trans hk')
            clear HBc HKc hb' hk'
            have HBc := HBn
            have HKc := HKn
            clear HBn HKn
            rw [HY2.out]
            refine hK1.out _ _ trivial (fun _ => ?_)
            clear hK1 K1
            go_simp
            refine wpAnyH_take (i := 12) (v := .int .i64 (1 + y)) rfl (by kernel_rfl) (by kernel_rfl) (by kernel_rfl) (fun _ _ _ h => h) (Or.inl ⟨by rfl, ?_⟩) trivial ?_
            · intro W _
              go_simp <;> first | done | rfl | (rw [IntKind.wrap_i64]; omega) | (intro hh; exfalso; omega) | (refine Eq.trans ?_ rfl; omega)
            go_simp
            refine wpAnyH_take (i := 13) (v := .int .i64 (v + (1 + y))) rfl (by kernel_rfl) (by kernel_rfl) (by kernel_rfl) (fun _ _ _ h => h) (Or.inl ⟨by rfl, ?_⟩) trivial ?_
            · intro W _
              go_simp <;> first | done | rfl | (rw [IntKind.wrap_i64]; omega) | (intro hh; exfalso; omega) | (refine Eq.trans ?_ rfl; omega)
            go_simp
            refine wpAnyH_take (i := 15) (v := .pointer (some ⟨b, s, none⟩)) rfl (by kernel_rfl) (by kernel_rfl) (by kernel_rfl) (fun _ _ _ h => h) (Or.inl ⟨by rfl, ?_⟩) trivial ?_
            · intro W _
              go_simp <;> first | done | rfl | (rw [IntKind.wrap_i64]; omega) | (intro hh; exfalso; omega) | (refine Eq.trans ?_ rfl; omega)
            go_simp
            refine wpAnyH_ready (rs := [16]) (by kernel_rfl) (by simp) ?_
            refine AllReadyH.cons rfl (fun K1 hK1 => ?_) AllReadyH.nil
            have c22 := HBc.out.seed hT3.out (i := s) (by omega)
            have f22 := HBc.out.frozen s
            have HBn : Hid (∀ y : Int, Blk (World.setCell _ ⟨b, s, none⟩ (.int .i64 y)) b 46 (bdL (((T.set q 0).set r 0).set s y) p u)) := hide (fun y => by rw [← bdL_set _ _ _ _ _ hT3.out (by omega)]; exact HBc.out.set s y)
            have HKn : Hid (∀ v, Keeps (fun j => j = b) w0 (World.setCell _ ⟨b, s, none⟩ v)) := hide (fun v => HKc.out.setCell rfl v)
            clear HBc HKc
            have HBc := hide (HBn.out (v + (1 + y)))
            have HKc := hide (HKn.out (.int .i64 (v + (1 + y))))
            clear HBn HKn
            go_simp
            refine hK1.out _ _ trivial (fun _ => ?_)
            clear hK1 K1
            go_simp
            clear c22 f22
            refine wpAnyH_done (by kernel_rfl) ?_ _
            go_wp2_with fail
            go_meet
            case rel => exact ⟨HE.out _ HBc.out, HKc⟩
          refine AllReadyH.cons rfl (fun K1 hK1 => ?_) AllReadyH.nil
          go_simp
          refine (take_any T hT.out p u q (by omega) _ b HBc.out).mono ?_
          rintro e W ⟨rfl, hb', hk'⟩
          have HBn := hide hb'
          have HKn := hide (HKc.out.trans hk')
          clear HBc HKc hb' hk'
          have HBc := HBn
          have HKc := HKn
          clear HBn HKn
          rw [H1.out]
          refine hK1.out _ _ trivial (fun _ => ?_)
          clear hK1 K1
          go_simp
          refine wpAnyH_ready (rs := [5, 10]) (by kernel_rfl) (by simp) ?_
          refine AllReadyH.cons rfl (fun K1 hK1 => ?_) ?_
          · have c9 := HBc.out.seed hT2.out (i := s) (by omega)
            rw [HV2.out] at c9
            go_simp
            refine hK1.out _ _ trivial (fun _ => ?_)
            clear hK1 K1
            go_simp
            clear c9
            refine wpAnyH_ready (rs := [10]) (by kernel_rfl) (by simp) ?_
            refine AllReadyH.cons rfl (fun K1 hK1 => ?_) AllReadyH.nil
            go_simp
            refine (across_any T hT.out p u q hp hqp _).mono ?_
            rintro e W ⟨rfl, hw⟩
            have HBn := hide (HBc.out.below hw HBc.out.lt)
            have HKn := hide (HKc.out.grow hw)
            clear HBc HKc hw
            have HBc := HBn
            have HKc := HKn
            clear HBn HKn
            rw [HR.out]
            refine hK1.out _ _ trivial (fun _ => ?_)
            clear hK1 K1
            go_simp
            refine wpAnyH_ready (rs := [11]) (by kernel_rfl) (by simp) ?_
            refine AllReadyH.cons rfl (fun K1 hK1 => ?_) AllReadyH.nil
            go_simp
            refine (take_any (T.set q 0) hT2.out p u r (by omega) _ b HBc.out).mono ?_
            rintro e W ⟨rfl, hb', hk'⟩
            have HBn := hide hb'
            have HKn := hide (HKc.out.trans hk')
            clear HBc HKc hb' hk'
            have HBc := HBn
            have HKc := HKn
            clear HBn HKn
            rw [HY2.out]
            refine hK1.out _ _ trivial (fun _ => ?_)
            clear hK1 K1
            go_simp
            refine wpAnyH_take (i := 12) (v := .int .i64 (1 + y)) rfl (by kernel_rfl) (by kernel_rfl) (by kernel_rfl) (fun _ _ _ h => h) (Or.inl ⟨by rfl, ?_⟩) trivial ?_
            · intro W _
              go_simp <;> first | done | rfl | (rw [IntKind.wrap_i64]; omega) | (intro hh; exfalso; omega) | (refine Eq.trans ?_ rfl; omega)
            go_simp
            refine wpAnyH_take (i := 13) (v := .int .i64 (v + (1 + y))) rfl (by kernel_rfl) (by kernel_rfl) (by kernel_rfl) (fun _ _ _ h => h) (Or.inl ⟨by rfl, ?_⟩) trivial ?_
            · intro W _
              go_simp <;> first | done | rfl | (rw [IntKind.wrap_i64]; omega) | (intro hh; exfalso; omega) | (refine Eq.trans ?_ rfl; omega)
            go_simp
            refine wpAnyH_take (i := 15) (v := .pointer (some ⟨b, s, none⟩)) rfl (by kernel_rfl) (by kernel_rfl) (by kernel_rfl) (fun _ _ _ h => h) (Or.inl ⟨by rfl, ?_⟩) trivial ?_
            · intro W _
              go_simp <;> first | done | rfl | (rw [IntKind.wrap_i64]; omega) | (intro hh; exfalso; omega) | (refine Eq.trans ?_ rfl; omega)
            go_simp
            refine wpAnyH_ready (rs := [16]) (by kernel_rfl) (by simp) ?_
            refine AllReadyH.cons rfl (fun K1 hK1 => ?_) AllReadyH.nil
            have c22 := HBc.out.seed hT3.out (i := s) (by omega)
            have f22 := HBc.out.frozen s
            have HBn : Hid (∀ y : Int, Blk (World.setCell _ ⟨b, s, none⟩ (.int .i64 y)) b 46 (bdL (((T.set q 0).set r 0).set s y) p u)) := hide (fun y => by rw [← bdL_set _ _ _ _ _ hT3.out (by omega)]; exact HBc.out.set s y)
            have HKn : Hid (∀ v, Keeps (fun j => j = b) w0 (World.setCell _ ⟨b, s, none⟩ v)) := hide (fun v => HKc.out.setCell rfl v)
            clear HBc HKc
            have HBc := hide (HBn.out (v + (1 + y)))
            have HKc := hide (HKn.out (.int .i64 (v + (1 + y))))
            clear HBn HKn
            go_simp
            refine hK1.out _ _ trivial (fun _ => ?_)
            clear hK1 K1
            go_simp
            clear c22 f22
            refine wpAnyH_done (by kernel_rfl) ?_ _
            go_wp2_with fail
            go_meet
            case rel => exact ⟨HE.out _ HBc.out, HKc⟩
          refine AllReadyH.cons rfl (fun K1 hK1 => ?_) AllReadyH.nil
          go_simp
          refine (across_any T hT.out p u q hp hqp _).mono ?_
          rintro e W ⟨rfl, hw⟩
          have HBn := hide (HBc.out.below hw HBc.out.lt)
          have HKn := hide (HKc.out.grow hw)
          clear HBc HKc hw
          have HBc := HBn
          have HKc := HKn
          clear HBn HKn
          rw [HR.out]
          refine hK1.out _ _ trivial (fun _ => ?_)
          clear hK1 K1
          go_simp
          refine wpAnyH_ready (rs := [5, 11]) (by kernel_rfl) (by simp) ?_
          refine AllReadyH.cons rfl (fun K1 hK1 => ?_) ?_
          · have c9 := HBc.out.seed hT2.out (i := s) (by omega)
            rw [HV2.out] at c9
            go_simp
            refine hK1.out _ _ trivial (fun _ => ?_)
            clear hK1 K1
            go_simp
            clear c9
            refine wpAnyH_ready (rs := [11]) (by kernel_rfl) (by simp) ?_
            refine AllReadyH.cons rfl (fun K1 hK1 => ?_) AllReadyH.nil
            go_simp
            refine (take_any (T.set q 0) hT2.out p u r (by omega) _ b HBc.out).mono ?_
            rintro e W ⟨rfl, hb', hk'⟩
            have HBn := hide hb'
            have HKn := hide (HKc.out.trans hk')
            clear HBc HKc hb' hk'
            have HBc := HBn
            have HKc := HKn
            clear HBn HKn
            rw [HY2.out]
            refine hK1.out _ _ trivial (fun _ => ?_)
            clear hK1 K1
            go_simp
            refine wpAnyH_take (i := 12) (v := .int .i64 (1 + y)) rfl (by kernel_rfl) (by kernel_rfl) (by kernel_rfl) (fun _ _ _ h => h) (Or.inl ⟨by rfl, ?_⟩) trivial ?_
            · intro W _
              go_simp <;> first | done | rfl | (rw [IntKind.wrap_i64]; omega) | (intro hh; exfalso; omega) | (refine Eq.trans ?_ rfl; omega)
            go_simp
            refine wpAnyH_take (i := 13) (v := .int .i64 (v + (1 + y))) rfl (by kernel_rfl) (by kernel_rfl) (by kernel_rfl) (fun _ _ _ h => h) (Or.inl ⟨by rfl, ?_⟩) trivial ?_
            · intro W _
              go_simp <;> first | done | rfl | (rw [IntKind.wrap_i64]; omega) | (intro hh; exfalso; omega) | (refine Eq.trans ?_ rfl; omega)
            go_simp
            refine wpAnyH_take (i := 15) (v := .pointer (some ⟨b, s, none⟩)) rfl (by kernel_rfl) (by kernel_rfl) (by kernel_rfl) (fun _ _ _ h => h) (Or.inl ⟨by rfl, ?_⟩) trivial ?_
            · intro W _
              go_simp <;> first | done | rfl | (rw [IntKind.wrap_i64]; omega) | (intro hh; exfalso; omega) | (refine Eq.trans ?_ rfl; omega)
            go_simp
            refine wpAnyH_ready (rs := [16]) (by kernel_rfl) (by simp) ?_
            refine AllReadyH.cons rfl (fun K1 hK1 => ?_) AllReadyH.nil
            have c22 := HBc.out.seed hT3.out (i := s) (by omega)
            have f22 := HBc.out.frozen s
            have HBn : Hid (∀ y : Int, Blk (World.setCell _ ⟨b, s, none⟩ (.int .i64 y)) b 46 (bdL (((T.set q 0).set r 0).set s y) p u)) := hide (fun y => by rw [← bdL_set _ _ _ _ _ hT3.out (by omega)]; exact HBc.out.set s y)
            have HKn : Hid (∀ v, Keeps (fun j => j = b) w0 (World.setCell _ ⟨b, s, none⟩ v)) := hide (fun v => HKc.out.setCell rfl v)
            clear HBc HKc
            have HBc := hide (HBn.out (v + (1 + y)))
            have HKc := hide (HKn.out (.int .i64 (v + (1 + y))))
            clear HBn HKn
            go_simp
            refine hK1.out _ _ trivial (fun _ => ?_)
            clear hK1 K1
            go_simp
            clear c22 f22
            refine wpAnyH_done (by kernel_rfl) ?_ _
            go_wp2_with fail
            go_meet
            case rel => exact ⟨HE.out _ HBc.out, HKc⟩
          refine AllReadyH.cons rfl (fun K1 hK1 => ?_) AllReadyH.nil
          go_simp
          refine (take_any (T.set q 0) hT2.out p u r (by omega) _ b HBc.out).mono ?_
          rintro e W ⟨rfl, hb', hk'⟩
          have HBn := hide hb'
          have HKn := hide (HKc.out.trans hk')
          clear HBc HKc hb' hk'
          have HBc := HBn
          have HKc := HKn
          clear HBn HKn
          rw [HY2.out]
          refine hK1.out _ _ trivial (fun _ => ?_)
          clear hK1 K1
          go_simp
          refine wpAnyH_take (i := 12) (v := .int .i64 (1 + y)) rfl (by kernel_rfl) (by kernel_rfl) (by kernel_rfl) (fun _ _ _ h => h) (Or.inl ⟨by rfl, ?_⟩) trivial ?_
          · intro W _
            go_simp <;> first | done | rfl | (rw [IntKind.wrap_i64]; omega) | (intro hh; exfalso; omega) | (refine Eq.trans ?_ rfl; omega)
          go_simp
          refine wpAnyH_ready (rs := [5]) (by kernel_rfl) (by simp) ?_
          refine AllReadyH.cons rfl (fun K1 hK1 => ?_) AllReadyH.nil
          have c9 := HBc.out.seed hT3.out (i := s) (by omega)
          rw [HV3.out] at c9
          go_simp
          refine hK1.out _ _ trivial (fun _ => ?_)
          clear hK1 K1
          go_simp
          clear c9
          refine wpAnyH_take (i := 13) (v := .int .i64 (v + (1 + y))) rfl (by kernel_rfl) (by kernel_rfl) (by kernel_rfl) (fun _ _ _ h => h) (Or.inl ⟨by rfl, ?_⟩) trivial ?_
          · intro W _
            go_simp <;> first | done | rfl | (rw [IntKind.wrap_i64]; omega) | (intro hh; exfalso; omega) | (refine Eq.trans ?_ rfl; omega)
          go_simp
          refine wpAnyH_take (i := 15) (v := .pointer (some ⟨b, s, none⟩)) rfl (by kernel_rfl) (by kernel_rfl) (by kernel_rfl) (fun _ _ _ h => h) (Or.inl ⟨by rfl, ?_⟩) trivial ?_
          · intro W _
            go_simp <;> first | done | rfl | (rw [IntKind.wrap_i64]; omega) | (intro hh; exfalso; omega) | (refine Eq.trans ?_ rfl; omega)
          go_simp
          refine wpAnyH_ready (rs := [16]) (by kernel_rfl) (by simp) ?_
          refine AllReadyH.cons rfl (fun K1 hK1 => ?_) AllReadyH.nil
          have c22 := HBc.out.seed hT3.out (i := s) (by omega)
          have f22 := HBc.out.frozen s
          have HBn : Hid (∀ y : Int, Blk (World.setCell _ ⟨b, s, none⟩ (.int .i64 y)) b 46 (bdL (((T.set q 0).set r 0).set s y) p u)) := hide (fun y => by rw [← bdL_set _ _ _ _ _ hT3.out (by omega)]; exact HBc.out.set s y)
          have HKn : Hid (∀ v, Keeps (fun j => j = b) w0 (World.setCell _ ⟨b, s, none⟩ v)) := hide (fun v => HKc.out.setCell rfl v)
          clear HBc HKc
          have HBc := hide (HBn.out (v + (1 + y)))
          have HKc := hide (HKn.out (.int .i64 (v + (1 + y))))
          clear HBn HKn
          go_simp
          refine hK1.out _ _ trivial (fun _ => ?_)
          clear hK1 K1
          go_simp
          clear c22 f22
          refine wpAnyH_done (by kernel_rfl) ?_ _
          go_wp2_with fail
          go_meet
          case rel => exact ⟨HE.out _ HBc.out, HKc⟩
      case rest =>
        obtain ⟨HBd, HKd⟩ := hcut
        clear HBc HKc HCT HCF
        have HBc := HBd
        have HKc := HKd
        clear HBd HKd
        have hlx : Hid ((bdL X p u).length = 16) := hide (bdL_length X p u hX.out)
        have HEN : Hid (endS p X = if overB p X then gth p X else X) := hide (by unfold endS; rfl)
        have HGF : Hid ((bdL (gth p X) p u).length = 16) := hide (bdL_length _ p u (by rw [gth_length]; exact hX.out))
        go_wp2_with (first | refine wpList_load_bd rfl _ rfl b rfl (bdL X p u) hlx.out HBc.out ?_)
        refine (over_any X hX.out p u hp HXF.out _).mono ?_
        rintro e w8 ⟨rfl, hw⟩
        have HBn := hide (HBc.out.below hw HBc.out.lt)
        have HKn := hide (HKc.out.grow hw)
        clear hw HBc HKc
        have HBc := HBn
        have HKc := HKn
        clear HBn HKn
        cases hov : overB p X with
        | true =>
          have HFS : Hid (FS = gth p X) := hide (by rw [HSW.out, HEN.out, hov]; simp)
          clear HSW HEN hov
          go_wp2_with fail
          refine (gather_any X hX.out p u hp HXF.out _ b HBc.out).mono ?_
          rintro e w9 ⟨rfl, hb', hk'⟩
          have HKn := hide (HKc.out.trans hk')
          have HBn := hide hb'
          clear hb' hk' HBc HKc
          have HZ9 := hide (HZB.out _ HKn.out)
          go_wp2_with (first
            | refine wpList_load_bd rfl _ rfl b rfl (bdL (gth p X) p u) HGF.out HBn.out ?_
            | refine wpList_store_bd rfl _ _ rfl (b + 1) (bdL (gth p X) p u) (List.replicate 16 0) HGF.out rfl rfl rfl HZ9.out ?_)
          intro w10 hb10 hk10
          go_wp2_with fail
          refine bodyPost_ret (results_bb rfl _ _ (b + 1) rfl (bdL (gth p X) p u) HGF.out hb10) rfl ⟨by rw [HFS.out]; rfl, ?_⟩
          exact (HKP.out _ HKn.out).trans (hk10.below (HKP.out _ HKn.out).size (fun k hk e => by omega))
        | false =>
          have HFS : Hid (FS = X) := hide (by rw [HSW.out, HEN.out, hov]; simp)
          clear HSW HEN hov
          have HZ9 := hide (HZB.out _ HKc.out)
          go_wp2_with (first
            | refine wpList_load_bd rfl _ rfl b rfl (bdL X p u) hlx.out HBc.out ?_
            | refine wpList_store_bd rfl _ _ rfl (b + 1) (bdL X p u) (List.replicate 16 0) hlx.out rfl rfl rfl HZ9.out ?_)
          intro w10 hb10 hk10
          go_wp2_with fail
          refine bodyPost_ret (results_bb rfl _ _ (b + 1) rfl (bdL X p u) hlx.out hb10) rfl ⟨by rw [HFS.out]; rfl, ?_⟩
          exact (HKP.out _ HKc.out).trans (hk10.below (HKP.out _ HKc.out).size (fun k hk e => by omega))

end Go.Proofs.Ytmdnoiebodaikaa
