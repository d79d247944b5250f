/-
  told: sets of places as a board's numbers, walked. No conditions beyond those that each theorem bears.
-/
import Derived.Test.YtnbaangnpoblfaaDoorMo
import Derived.Test.YtnbaangnpoblfaaDoorNe
namespace Go.Proofs.YtnbaangnpoblfaaDoor
open Go.RowKit Go.Shelf

theorem pow_and (i x : Nat) : 2 ^ i &&& x = if x.testBit i = true then 2 ^ i else 0 := by
  apply Nat.eq_of_testBit_eq
  intro j
  rw [Nat.testBit_and, Nat.testBit_two_pow]
  by_cases e : i = j
  · subst e
    cases h : x.testBit i <;> simp
  · split <;> simp [e]

theorem pow_and_ne (i x : Nat) : ((((2 ^ i &&& x : Nat) : Int) != 0) = x.testBit i) := by
  rw [pow_and]
  have : 0 < 2 ^ i := Nat.two_pow_pos i
  cases h : x.testBit i with
  | true => rw [if_pos rfl, bne_iff_ne]; omega
  | false => rw [if_neg (by simp)]; rfl

/-- The world while a board is told. -/
structure TP (w4 : World) (cb : Nat) (W : World) (Y : List Int) : Prop where
  k : Keeps (fun k => k = cb ∨ w4.heap.size ≤ k) w4 W
  o : W.ownsRow cb 3 1 (.slice (some ⟨cb, 0, none⟩) 33 33) 33 (Y.map (Value.int .i64))

attribute [local go_sem] build24d Oper.semAt_some wide_fn wide_fn0 wide_depth
attribute [local irreducible] tolS tolV bln numb EaG

set_option maxRecDepth 100000 in
set_option maxHeartbeats 8000000 in
theorem told_any (b : Bm) (hbo : Sub b.own ALL) (hbt : Sub b.oth ALL) (hbk : Sub b.kin ALL) (hmov : b.mov = 1 ∨ b.mov = 2) (w : World) (hT : TzT w) :
    Calls Tryd.prog 48 #[.agg (bdL b).toArray] w fun e w' => ∃ a c, e = .returned (.agg (dgA a 33 c (b.mov : Nat))) ∧ w'.ownsRow w.heap.size 3 1 (.slice a 33 c) 33 ((tol b).map (Value.int .i64)) ∧ Below w.heap.size w w' := by
  have ho36 := hbo.lt
  have ht36 := hbt.lt
  have hk36 := hbk.lt
  have HOR : Hid (bits BinOp.or .u64 ((b.own : Nat) : Int) ((b.oth : Nat) : Int) = ((b.own ||| b.oth : Nat) : Int)) := hide (bits_or_u64_nat _ _ (by omega) (by omega))
  have hM64 : b.own ||| b.oth < 2 ^ 64 := Nat.or_lt_two_pow (by omega) (by omega)
  have HTOL : Hid (tol b = tolS b (bln (b.own ||| b.oth) 64)) := hide rfl
  have HTB : Hid (∀ i, i ∈ bln (b.own ||| b.oth) 64 → i < 36 ∧ i < 64 ∧ numb i < 33) := hide (fun i hi => by
    have h1 := (mem_bln.1 hi).2
    have h2 := (hbo.or hbt) i h1
    have h3 : i < 36 := by
      by_cases h : i < 36
      · exact h
      · rw [Nat.testBit_lt_two_pow (Nat.lt_of_lt_of_le ALL_lt (Nat.pow_le_pow_right (by decide) (Nat.le_of_not_lt h)))] at h2; cases h2
    obtain ⟨p, hp1, hp2, rfl⟩ := all_bitn i h3 h2
    rw [numb_bitn hp2]
    omega)
  have HAK : Hid (∀ i, i < 36 → bits BinOp.and .u64 ((2 ^ i : Nat) : Int) ((b.kin : Nat) : Int) = ((2 ^ i &&& b.kin : Nat) : Int) ∧ bits BinOp.and .u64 ((2 ^ i : Nat) : Int) ((b.own : Nat) : Int) = ((2 ^ i &&& b.own : Nat) : Int)) := hide (fun i hi => by
    have : 2 ^ i ≤ 2 ^ 36 := Nat.pow_le_pow_right (by decide) (by omega)
    exact ⟨bits_and_u64_nat _ _ (by omega) (by omega), bits_and_u64_nat _ _ (by omega) (by omega)⟩)
  have HTV : Hid (∀ i, tolV b i = if decide (b.own.testBit i = true) = decide (b.mov = 1) then (if b.kin.testBit i = true then 2 else 1) else -(if b.kin.testBit i = true then 2 else 1)) := hide (fun i => by unfold tolV; rfl)
  have HT0 : Hid (tolS b [] = zer 33) := hide (by unfold tolS; rfl)
  have HSN := hide (fun s i => tolS_snoc b s i)
  have HSQ := hide (fun bp => each1_o bp (b.own ||| b.oth) hM64)
  obtain ⟨w1, hw1⟩ : ∃ w1, (w.alloc (.cells (bdL b).toArray 60)).alloc (.cells #[.slice none 0 0, .int .i64 0] 24) = w1 := ⟨_, rfl⟩
  have HB1 : Hid (Below w.heap.size w w1) := hide (by rw [← hw1]; exact ((Below.refl _ _).alloc (Nat.le_refl _) _).alloc (by simp) _)
  have V1 : Vb w1 w.heap.size 60 (bdL b) := by rw [← hw1]; exact (Vb.new _ _ _).old _
  have Z1 : Dg w1 (w.heap.size + 1) none 0 0 0 := by
    rw [← hw1]
    have := Dg.new (w.alloc (.cells (bdL b).toArray 60)) none 0 0 0
    rw [World.size_alloc] at this
    exact this
  obtain ⟨w2, hrun0, hO2, hg2⟩ := make_row 33 (by omega) w1
  have hrun : (Instr.makeSlice 22 (.int .i64 33) (.int .i64 33)).run Tryd.prog w1 = .ok (.slice (some ⟨w1.heap.size, 0, none⟩) 33 33) w2 := hrun0
  have B12 : Below w1.heap.size w1 w2 := (Below.refl _ w1).grown hg2 (Nat.le_refl _) (fun j hj => by cases hj)
  have hl2 : w1.heap.size < w2.heap.size := (hO2.lt _ rfl).2
  obtain ⟨w2a, hw2a⟩ : ∃ w2a, w2.alloc (.cells #[.slice none 0 0] 22) = w2a := ⟨_, rfl⟩
  have BA : Below w2.heap.size w2 w2a := by rw [← hw2a]; exact (Below.refl _ _).alloc (Nat.le_refl _) _
  have VA : Vb w2a w2.heap.size 22 [.slice none 0 0] := by rw [← hw2a]; exact Vb.new _ _ _
  have ca := VA.cell (i := 0) rfl
  have fa := VA.frozen 0
  obtain ⟨w3, hw3⟩ : ∃ w3, w2a.setCell ⟨w2.heap.size, 0, none⟩ (.slice (some ⟨w1.heap.size, 0, none⟩) 33 33) = w3 := ⟨_, rfl⟩
  have B3 : Below w2.heap.size w2 w3 := by rw [← hw3]; exact BA.setCell (p := ⟨w2.heap.size, 0, none⟩) (Nat.le_refl _) _
  have V3 : Vb w3 w2.heap.size 22 [.slice (some ⟨w1.heap.size, 0, none⟩) 33 33] := by rw [← hw3]; exact VA.set 0 _
  have HO3 : Hid (w3.ownsRow w1.heap.size 3 1 (.slice (some ⟨w1.heap.size, 0, none⟩) 33 33) 33 ((zer 33).map (Value.int .i64))) := hide (hO2.kept (row := none) ⟨B3.os, B3.tape, B3.output, B3.size, fun i hi _ => B3.block i hi⟩ (Or.inr (by simp [Value.ownBlock])))
  have hz1 : w.heap.size + 1 < w1.heap.size := Z1.lt
  have HB2 := hide (HB1.out.trans (B12.mono HB1.out.size))
  have HB3 : Hid (Below w.heap.size w w3) := hide (HB2.out.trans (B3.mono HB2.out.size))
  have HVB3 : Hid (Vb w3 w.heap.size 60 (bdL b)) := hide ((V1.mono B12).below B3 (by omega))
  have HZ3 : Hid (Dg w3 (w.heap.size + 1) none 0 0 0) := hide ((Z1.below B12 Z1.lt).below B3 (by omega))
  have HT3 : Hid (TzT w3) := hide (((hT.mono HB1.out).mono B12).mono (B3.mono (Nat.le_refl _)))
  have HV3 := hide V3
  have q0 := HVB3.out.cell (i := 0) rfl
  have q1 := HVB3.out.cell (i := 1) rfl
  have hor := HOR.out
  have HZZ := hide hz1
  have HLL := hide hl2
  clear V1 Z1 B12 hO2 hg2 hrun0 BA VA B3 V3 HB1 hT HB2
  refine (callsIn_wide (n := 3)).1 ?_
  refine callsIn_of_wp_marks Tryd.func48 rfl trivial ?_ rfl
  simp only [Tryd.ntmps48, List.size_toArray, List.length_cons, List.length_nil, Nat.reduceAdd, Nat.reduceSub, Array.replicate_succ, Array.replicate_zero, List.push_toArray, List.append_toArray, List.nil_append, List.cons_append]
  refine wpIn_wide.2 ?_
  go_upto_region 1 with fail
  clear hw1
  go_upto_region 2 with fail
  clear hw2a hw3 hrun ca fa
  go_wp2_with fail
  refine (each_any _ _).mono ?_
  rintro e w4 ⟨rfl, hw4⟩
  have B34 : Below w3.heap.size w3 w4 := by rw [hw4]; exact (Below.refl _ _).alloc (Nat.le_refl _) _
  have HC4 : Hid (w4.cell? ⟨w3.heap.size, 0, none⟩ = some (.int .u64 (b.own ||| b.oth : Nat))) := hide (by rw [hw4]; exact new_cell w3 _ 58)
  have hs4 : w3.heap.size < w4.heap.size := World.block_lt_of_cell? w4 _ HC4.out
  obtain ⟨bp, hbp⟩ : ∃ bp, w3.heap.size = bp := ⟨_, rfl⟩
  obtain ⟨cb, hcb⟩ : ∃ cb, w1.heap.size = cb := ⟨_, rfl⟩
  obtain ⟨lb, hlb⟩ : ∃ lb, w2.heap.size = lb := ⟨_, rfl⟩
  have hlb3 : w2.heap.size < w3.heap.size := HV3.out.lt
  have HB4 := hide (HB3.out.trans (B34.mono HB3.out.size))
  have HVB := hide (HVB3.out.mono B34)
  have HZ4 := hide (HZ3.out.below B34 HZ3.out.lt)
  have HT4 := hide (HT3.out.mono B34)
  have HV4 := hide (HV3.out.mono B34)
  have HO4 : Hid (w4.ownsRow cb 3 1 (.slice (some ⟨cb, 0, none⟩) 33 33) 33 ((tolS b []).map (Value.int .i64))) := hide (by
    rw [HT0.out, ← hcb]
    exact HO3.out.kept (row := none) ⟨B34.os, B34.tape, B34.output, B34.size, fun i hi _ => B34.block i hi⟩ (Or.inr (by simp [Value.ownBlock])))
  have h1s := HT4.out.lt
  rw [hbp] at HC4 hs4 hlb3 ⊢
  rw [hlb] at hlb3 HV4 hl2 ⊢
  rw [hcb] at HV4 hz1 hl2 ⊢
  have h1w : 1 < w.heap.size + 2 := by have := h1s; have := HT3.out; first | omega | exact absurd rfl (by omega)
  clear hw4 B34 hbp hcb hlb HB3 HVB3 HZ3 HT3 HV3 HO3 q0 q1 hor HZZ HLL
  go_wp2_with fail
  refine (wpIn_wide (n := 1)).1 (wp_range_o (gf := 83) (lb := #[.pointer (some ⟨bp, 0, none⟩)]) (G := EaG) (xs := bln (b.own ||| b.oth) 64) (R := EaR bp (b.own ||| b.oth)) (T := fun k => k = bp) (by simp [Act.eval]) (enters_of Tryd.func83 (by kernel_rfl) rfl)
    (HSQ.out bp) (fun k hk => by rw [hk]; exact hs4) (fun A hA => (hA.cell (p := ⟨bp, 0, none⟩) hs4).trans HC4.out) (fun y args W' hG => by unfold EaG at hG; rw [hG]; rfl)
    (fun O s W' => (∀ k, O k → k = cb) ∧ O cb ∧ TP w4 cb W' (tolS b s)) (fun _ _ _ => False) (fun k => k = cb) ?hC ?h0 ?round ?done (fun _ _ _ _ _ h => h.elim))
  case h0 => exact ⟨fun k h => h, rfl, Keeps.refl _ _, HO4.out⟩
  case hC =>
    intro d
    refine ⟨?_, ?_, ?_, ?_⟩
    · rintro O s A ⟨h1, h2, h3⟩ k hk
      obtain rfl := h1 k hk
      exact ⟨(h3.o.lt k rfl).2, by omega⟩
    · rintro O A h; exact h.elim
    · rintro O s A B ⟨h1, h2, h3⟩ hk
      refine ⟨h1, h2, ⟨h3.k.trans (hk.mono (fun k _ e => Or.inr e.1)), own_blk h3.o (fun g hg => ?_)⟩⟩
      have : cb = g := by simpa [Value.ownBlock] using hg
      subst this
      exact hk.block _ (h3.o.lt cb rfl).2 (fun e => e.2 h2)
    · rintro O A B h; exact h.elim
  case round =>
    rintro l2 O s i args W1 hl2' hrec ⟨h1, h2, h3⟩ hOl _ hOm hpre hG hsz
    have hi := hpre.subset (show i ∈ s ++ [i] by simp)
    obtain ⟨hi36, hi64, hn33⟩ := HTB.out i hi
    obtain rfl : args = #[.int .u64 (2 ^ i : Nat)] := by unfold EaG at hG; exact hG
    have HNU := hide (fun W (h : TzT W) => number_any i hi64 W h)
    have HAI := hide (HAK.out i hi36)
    have HKN := hide (pow_and_ne i b.kin)
    have HON := hide (pow_and_ne i b.own)
    have HVI := hide (HTV.out i)
    have HSI := hide (HSN.out s i)
    have HP1 := hide h3
    have HL2 : Hid (l2 = w4.heap.size + 1 ∧ w4.heap.size + 2 ≤ W1.heap.size) := hide ⟨hl2', hsz⟩
    have HO1 := hide h1
    have HO2 := hide h2
    have HHB : Hid (b.mov = 1 ∨ b.mov = 2) := hide hmov
    generalize tolS b s = Y at *
    generalize tolV b i = TV at *
    generalize 2 ^ i &&& b.kin = xk at *
    generalize 2 ^ i &&& b.own = xo at *
    generalize 2 ^ i = K2 at *
    generalize numb i = ni at *
    clear h1 h2 h3 hOl hpre hG hsz hl2' hrec hi hOm
    gi_wp2
    refine ⟨Below.refl _ _, ?_⟩
    intro W3 hk3
    have z := HL2.out
    have K3 : Keeps (fun k => k = cb ∨ w4.heap.size ≤ k) w4 W3 := HP1.out.k.trans (hk3.mono (fun k _ e => Or.inr (by omega)))
    have HP3 : Hid (TP w4 cb W3 Y) := hide ⟨K3, own_blk HP1.out.o (fun g hg => by
      have : cb = g := by simpa [Value.ownBlock] using hg
      subst this
      exact hk3.block _ (HP1.out.o.lt cb rfl).2 (by omega))⟩
    have VB3 := HVB.out.keeps K3 (by omega)
    have c0 : W3.cell? ⟨w.heap.size, 0, none⟩ = some (.int .u64 (b.own : Nat)) := VB3.cell (i := 0) rfl
    have c2 : W3.cell? ⟨w.heap.size, 2, none⟩ = some (.int .u64 (b.kin : Nat)) := VB3.cell (i := 2) rfl
    have c3 : W3.cell? ⟨w.heap.size, 3, none⟩ = some (.int .i64 (b.mov : Nat)) := VB3.cell (i := 3) rfl
    obtain ⟨a1, a2⟩ := HAI.out
    have HV3 := hide (HV4.out.keeps K3 (by omega))
    have HT3 := hide (HT4.out.keeps K3 (by omega))
    have HK3 := hide hk3
    clear K3 VB3 z hk3 HP1
    have hm12 := HHB.out
    rcases Bool.eq_false_or_eq_true (b.kin.testBit i) with hkb | hkb
    · rcases Bool.eq_false_or_eq_true (b.own.testBit i) with hob | hob
      · rcases hm12 with hmb | hmb
        · have hm1 : (((b.mov : Nat) : Int) == 1) = true := by rw [hmb]; rfl
          have HTE : Hid (TV = 2) := hide (by rw [HVI.out]; simp [hkb, hob, hmb])
          have hkn : ((xk : Int) != 0) = true := by rw [HKN.out, hkb]
          have hon : ((xo : Int) != 0) = true := by rw [HON.out, hob]
          clear hkb hob hmb
          gi_wp2
          refine wp_region_round (S := fun W4 => Keeps (fun q => q = cb) W3 W4) (by kernel_rfl) (by kernel_rfl) (by rintro ⟨_, _, h⟩; exact h) ?_
          clear c0 c2 c3 a1 a2 hkn hon hm1
          have SW : Keeps (fun q => q = cb) W3 W3.drew := (Keeps.refl _ W3).drew
          have HOD : Hid (W3.drew.ownsRow cb 3 1 (.slice (some ⟨cb, 0, none⟩) 33 33) 33 (Y.map (Value.int .i64))) := hide HP3.out.o
          generalize W3.drew = wd at *
          have HGK : Hid (∀ W4, Keeps (fun q => q = cb) W3 W4 → W4.cell? ⟨lb, 0, none⟩ = some (.slice (some ⟨cb, 0, none⟩) 33 33)) := hide (fun W4 h4 => (HV3.out.keeps h4 (by omega)).cell (i := 0) rfl)
          refine wpAnyH_take (i := 0) (v := .slice (some ⟨cb, 0, none⟩) 33 33) rfl (by kernel_rfl) (by kernel_rfl) (by kernel_rfl) (fun _ _ _ h => h) (Or.inl ⟨by rfl, ?_⟩) SW ?_
          · intro W4 hW4
            have x0 := HGK.out W4 hW4
            go_simp <;> first | done | rfl | (rw [IntKind.wrap_i64]; omega) | omega
          go_simp
          refine wpAnyH_take (i := 1) (v := .int .u64 (K2 : Nat)) rfl (by kernel_rfl) (by kernel_rfl) (by kernel_rfl) (fun _ _ _ h => h) (Or.inl ⟨by rfl, ?_⟩) SW ?_
          · intro W4 hW4
            go_simp <;> first | done | rfl | (rw [IntKind.wrap_i64]; omega) | omega
          go_simp
          refine wpAnyH_take (i := 3) (v := .int .i64 (2)) rfl (by kernel_rfl) (by kernel_rfl) (by kernel_rfl) (fun _ _ _ h => h) (Or.inl ⟨by rfl, ?_⟩) SW ?_
          · intro W4 hW4
            go_simp <;> first | done | rfl | (rw [IntKind.wrap_i64]; omega) | omega
          go_simp
          refine wpAnyH_ready (rs := [2]) (by kernel_rfl) (by simp) ?_
          refine AllReadyH.cons rfl (fun K1 hK1 => ?_) AllReadyH.nil
          go_simp
          refine (HNU.out _ (HT3.out.keeps SW (by omega))).mono ?_
          rintro r w5 ⟨rfl, hw5⟩
          subst w5
          refine hK1.out _ _ SW (fun SW => ?_)
          clear hK1 K1
          go_simp
          have hn33' : (ni : Int) < 33 := by omega
          refine wpAnyH_ready (rs := [4]) (by kernel_rfl) (by simp) ?_
          refine AllReadyH.cons rfl (fun K1 hK1 => ?_) AllReadyH.nil
          go_simp
          refine hK1.out _ _ SW (fun SW => ?_)
          clear hK1 K1
          go_simp
          have hpw : PW wd cb cb 33 33 wd Y := ⟨Keeps.refl _ _, HOD.out⟩
          obtain ⟨⟨v1, c1⟩, f1⟩ := hpw.cell hn33
          have HS5 := hide (hpw.set ni (2))
          clear hpw
          refine wpAnyH_ready (rs := [5]) (by kernel_rfl) (by simp) ?_
          refine AllReadyH.cons rfl (fun K1 hK1 => ?_) AllReadyH.nil
          go_simp
          refine hK1.out _ _ (SW.trans HS5.out.k) (fun SW => ?_)
          clear hK1 K1 c1 f1
          generalize wd.setCell ⟨cb, ni, none⟩ (.int .i64 (2)) = we at *
          go_simp
          refine wpAnyH_done (by kernel_rfl) ?_ _
          have HKE := hide SW
          clear SW
          gi_wp2
          refine ⟨HKE.out.mono (fun k _ e => e ▸ HO2.out), O, fun k _ h => h, HO1.out, HO2.out, ⟨HP3.out.k.trans (HKE.out.mono (fun k _ e => Or.inl e)), ?_⟩⟩
          rw [HSI.out, HTE.out]
          exact HS5.out.o
        · have hm1 : (((b.mov : Nat) : Int) == 1) = false := by rw [hmb]; rfl
          have HTE : Hid (TV = -2) := hide (by rw [HVI.out]; simp [hkb, hob, hmb])
          have hkn : ((xk : Int) != 0) = true := by rw [HKN.out, hkb]
          have hon : ((xo : Int) != 0) = true := by rw [HON.out, hob]
          clear hkb hob hmb
          gi_wp2
          refine wp_region_round (S := fun W4 => Keeps (fun q => q = cb) W3 W4) (by kernel_rfl) (by kernel_rfl) (by rintro ⟨_, _, h⟩; exact h) ?_
          clear c0 c2 c3 a1 a2 hkn hon hm1
          have SW : Keeps (fun q => q = cb) W3 W3.drew := (Keeps.refl _ W3).drew
          have HOD : Hid (W3.drew.ownsRow cb 3 1 (.slice (some ⟨cb, 0, none⟩) 33 33) 33 (Y.map (Value.int .i64))) := hide HP3.out.o
          generalize W3.drew = wd at *
          have HGK : Hid (∀ W4, Keeps (fun q => q = cb) W3 W4 → W4.cell? ⟨lb, 0, none⟩ = some (.slice (some ⟨cb, 0, none⟩) 33 33)) := hide (fun W4 h4 => (HV3.out.keeps h4 (by omega)).cell (i := 0) rfl)
          refine wpAnyH_take (i := 0) (v := .slice (some ⟨cb, 0, none⟩) 33 33) rfl (by kernel_rfl) (by kernel_rfl) (by kernel_rfl) (fun _ _ _ h => h) (Or.inl ⟨by rfl, ?_⟩) SW ?_
          · intro W4 hW4
            have x0 := HGK.out W4 hW4
            go_simp <;> first | done | rfl | (rw [IntKind.wrap_i64]; omega) | omega
          go_simp
          refine wpAnyH_take (i := 1) (v := .int .u64 (K2 : Nat)) rfl (by kernel_rfl) (by kernel_rfl) (by kernel_rfl) (fun _ _ _ h => h) (Or.inl ⟨by rfl, ?_⟩) SW ?_
          · intro W4 hW4
            go_simp <;> first | done | rfl | (rw [IntKind.wrap_i64]; omega) | omega
          go_simp
          refine wpAnyH_take (i := 3) (v := .int .i64 (-2)) rfl (by kernel_rfl) (by kernel_rfl) (by kernel_rfl) (fun _ _ _ h => h) (Or.inl ⟨by rfl, ?_⟩) SW ?_
          · intro W4 hW4
            go_simp <;> first | done | rfl | (rw [IntKind.wrap_i64]; omega) | omega
          go_simp
          refine wpAnyH_ready (rs := [2]) (by kernel_rfl) (by simp) ?_
          refine AllReadyH.cons rfl (fun K1 hK1 => ?_) AllReadyH.nil
          go_simp
          refine (HNU.out _ (HT3.out.keeps SW (by omega))).mono ?_
          rintro r w5 ⟨rfl, hw5⟩
          subst w5
          refine hK1.out _ _ SW (fun SW => ?_)
          clear hK1 K1
          go_simp
          have hn33' : (ni : Int) < 33 := by omega
          refine wpAnyH_ready (rs := [4]) (by kernel_rfl) (by simp) ?_
          refine AllReadyH.cons rfl (fun K1 hK1 => ?_) AllReadyH.nil
          go_simp
          refine hK1.out _ _ SW (fun SW => ?_)
          clear hK1 K1
          go_simp
          have hpw : PW wd cb cb 33 33 wd Y := ⟨Keeps.refl _ _, HOD.out⟩
          obtain ⟨⟨v1, c1⟩, f1⟩ := hpw.cell hn33
          have HS5 := hide (hpw.set ni (-2))
          clear hpw
          refine wpAnyH_ready (rs := [5]) (by kernel_rfl) (by simp) ?_
          refine AllReadyH.cons rfl (fun K1 hK1 => ?_) AllReadyH.nil
          go_simp
          refine hK1.out _ _ (SW.trans HS5.out.k) (fun SW => ?_)
          clear hK1 K1 c1 f1
          generalize wd.setCell ⟨cb, ni, none⟩ (.int .i64 (-2)) = we at *
          go_simp
          refine wpAnyH_done (by kernel_rfl) ?_ _
          have HKE := hide SW
          clear SW
          gi_wp2
          refine ⟨HKE.out.mono (fun k _ e => e ▸ HO2.out), O, fun k _ h => h, HO1.out, HO2.out, ⟨HP3.out.k.trans (HKE.out.mono (fun k _ e => Or.inl e)), ?_⟩⟩
          rw [HSI.out, HTE.out]
          exact HS5.out.o
      · rcases hm12 with hmb | hmb
        · have hm1 : (((b.mov : Nat) : Int) == 1) = true := by rw [hmb]; rfl
          have HTE : Hid (TV = -2) := hide (by rw [HVI.out]; simp [hkb, hob, hmb])
          have hkn : ((xk : Int) != 0) = true := by rw [HKN.out, hkb]
          have hon : ((xo : Int) != 0) = false := by rw [HON.out, hob]
          clear hkb hob hmb
          gi_wp2
          refine wp_region_round (S := fun W4 => Keeps (fun q => q = cb) W3 W4) (by kernel_rfl) (by kernel_rfl) (by rintro ⟨_, _, h⟩; exact h) ?_
          clear c0 c2 c3 a1 a2 hkn hon hm1
          have SW : Keeps (fun q => q = cb) W3 W3.drew := (Keeps.refl _ W3).drew
          have HOD : Hid (W3.drew.ownsRow cb 3 1 (.slice (some ⟨cb, 0, none⟩) 33 33) 33 (Y.map (Value.int .i64))) := hide HP3.out.o
          generalize W3.drew = wd at *
          have HGK : Hid (∀ W4, Keeps (fun q => q = cb) W3 W4 → W4.cell? ⟨lb, 0, none⟩ = some (.slice (some ⟨cb, 0, none⟩) 33 33)) := hide (fun W4 h4 => (HV3.out.keeps h4 (by omega)).cell (i := 0) rfl)
          refine wpAnyH_take (i := 0) (v := .slice (some ⟨cb, 0, none⟩) 33 33) rfl (by kernel_rfl) (by kernel_rfl) (by kernel_rfl) (fun _ _ _ h => h) (Or.inl ⟨by rfl, ?_⟩) SW ?_
          · intro W4 hW4
            have x0 := HGK.out W4 hW4
            go_simp <;> first | done | rfl | (rw [IntKind.wrap_i64]; omega) | omega
          go_simp
          refine wpAnyH_take (i := 1) (v := .int .u64 (K2 : Nat)) rfl (by kernel_rfl) (by kernel_rfl) (by kernel_rfl) (fun _ _ _ h => h) (Or.inl ⟨by rfl, ?_⟩) SW ?_
          · intro W4 hW4
            go_simp <;> first | done | rfl | (rw [IntKind.wrap_i64]; omega) | omega
          go_simp
          refine wpAnyH_take (i := 3) (v := .int .i64 (-2)) rfl (by kernel_rfl) (by kernel_rfl) (by kernel_rfl) (fun _ _ _ h => h) (Or.inl ⟨by rfl, ?_⟩) SW ?_
          · intro W4 hW4
            go_simp <;> first | done | rfl | (rw [IntKind.wrap_i64]; omega) | omega
          go_simp
          refine wpAnyH_ready (rs := [2]) (by kernel_rfl) (by simp) ?_
          refine AllReadyH.cons rfl (fun K1 hK1 => ?_) AllReadyH.nil
          go_simp
          refine (HNU.out _ (HT3.out.keeps SW (by omega))).mono ?_
          rintro r w5 ⟨rfl, hw5⟩
          subst w5
          refine hK1.out _ _ SW (fun SW => ?_)
          clear hK1 K1
          go_simp
          have hn33' : (ni : Int) < 33 := by omega
          refine wpAnyH_ready (rs := [4]) (by kernel_rfl) (by simp) ?_
          refine AllReadyH.cons rfl (fun K1 hK1 => ?_) AllReadyH.nil
          go_simp
          refine hK1.out _ _ SW (fun SW => ?_)
          clear hK1 K1
          go_simp
          have hpw : PW wd cb cb 33 33 wd Y := ⟨Keeps.refl _ _, HOD.out⟩
          obtain ⟨⟨v1, c1⟩, f1⟩ := hpw.cell hn33
          have HS5 := hide (hpw.set ni (-2))
          clear hpw
          refine wpAnyH_ready (rs := [5]) (by kernel_rfl) (by simp) ?_
          refine AllReadyH.cons rfl (fun K1 hK1 => ?_) AllReadyH.nil
          go_simp
          refine hK1.out _ _ (SW.trans HS5.out.k) (fun SW => ?_)
          clear hK1 K1 c1 f1
          generalize wd.setCell ⟨cb, ni, none⟩ (.int .i64 (-2)) = we at *
          go_simp
          refine wpAnyH_done (by kernel_rfl) ?_ _
          have HKE := hide SW
          clear SW
          gi_wp2
          refine ⟨HKE.out.mono (fun k _ e => e ▸ HO2.out), O, fun k _ h => h, HO1.out, HO2.out, ⟨HP3.out.k.trans (HKE.out.mono (fun k _ e => Or.inl e)), ?_⟩⟩
          rw [HSI.out, HTE.out]
          exact HS5.out.o
        · have hm1 : (((b.mov : Nat) : Int) == 1) = false := by rw [hmb]; rfl
          have HTE : Hid (TV = 2) := hide (by rw [HVI.out]; simp [hkb, hob, hmb])
          have hkn : ((xk : Int) != 0) = true := by rw [HKN.out, hkb]
          have hon : ((xo : Int) != 0) = false := by rw [HON.out, hob]
          clear hkb hob hmb
          gi_wp2
          refine wp_region_round (S := fun W4 => Keeps (fun q => q = cb) W3 W4) (by kernel_rfl) (by kernel_rfl) (by rintro ⟨_, _, h⟩; exact h) ?_
          clear c0 c2 c3 a1 a2 hkn hon hm1
          have SW : Keeps (fun q => q = cb) W3 W3.drew := (Keeps.refl _ W3).drew
          have HOD : Hid (W3.drew.ownsRow cb 3 1 (.slice (some ⟨cb, 0, none⟩) 33 33) 33 (Y.map (Value.int .i64))) := hide HP3.out.o
          generalize W3.drew = wd at *
          have HGK : Hid (∀ W4, Keeps (fun q => q = cb) W3 W4 → W4.cell? ⟨lb, 0, none⟩ = some (.slice (some ⟨cb, 0, none⟩) 33 33)) := hide (fun W4 h4 => (HV3.out.keeps h4 (by omega)).cell (i := 0) rfl)
          refine wpAnyH_take (i := 0) (v := .slice (some ⟨cb, 0, none⟩) 33 33) rfl (by kernel_rfl) (by kernel_rfl) (by kernel_rfl) (fun _ _ _ h => h) (Or.inl ⟨by rfl, ?_⟩) SW ?_
          · intro W4 hW4
            have x0 := HGK.out W4 hW4
            go_simp <;> first | done | rfl | (rw [IntKind.wrap_i64]; omega) | omega
          go_simp
          refine wpAnyH_take (i := 1) (v := .int .u64 (K2 : Nat)) rfl (by kernel_rfl) (by kernel_rfl) (by kernel_rfl) (fun _ _ _ h => h) (Or.inl ⟨by rfl, ?_⟩) SW ?_
          · intro W4 hW4
            go_simp <;> first | done | rfl | (rw [IntKind.wrap_i64]; omega) | omega
          go_simp
          refine wpAnyH_take (i := 3) (v := .int .i64 (2)) rfl (by kernel_rfl) (by kernel_rfl) (by kernel_rfl) (fun _ _ _ h => h) (Or.inl ⟨by rfl, ?_⟩) SW ?_
          · intro W4 hW4
            go_simp <;> first | done | rfl | (rw [IntKind.wrap_i64]; omega) | omega
          go_simp
          refine wpAnyH_ready (rs := [2]) (by kernel_rfl) (by simp) ?_
          refine AllReadyH.cons rfl (fun K1 hK1 => ?_) AllReadyH.nil
          go_simp
          refine (HNU.out _ (HT3.out.keeps SW (by omega))).mono ?_
          rintro r w5 ⟨rfl, hw5⟩
          subst w5
          refine hK1.out _ _ SW (fun SW => ?_)
          clear hK1 K1
          go_simp
          have hn33' : (ni : Int) < 33 := by omega
          refine wpAnyH_ready (rs := [4]) (by kernel_rfl) (by simp) ?_
          refine AllReadyH.cons rfl (fun K1 hK1 => ?_) AllReadyH.nil
          go_simp
          refine hK1.out _ _ SW (fun SW => ?_)
          clear hK1 K1
          go_simp
          have hpw : PW wd cb cb 33 33 wd Y := ⟨Keeps.refl _ _, HOD.out⟩
          obtain ⟨⟨v1, c1⟩, f1⟩ := hpw.cell hn33
          have HS5 := hide (hpw.set ni (2))
          clear hpw
          refine wpAnyH_ready (rs := [5]) (by kernel_rfl) (by simp) ?_
          refine AllReadyH.cons rfl (fun K1 hK1 => ?_) AllReadyH.nil
          go_simp
          refine hK1.out _ _ (SW.trans HS5.out.k) (fun SW => ?_)
          clear hK1 K1 c1 f1
          generalize wd.setCell ⟨cb, ni, none⟩ (.int .i64 (2)) = we at *
          go_simp
          refine wpAnyH_done (by kernel_rfl) ?_ _
          have HKE := hide SW
          clear SW
          gi_wp2
          refine ⟨HKE.out.mono (fun k _ e => e ▸ HO2.out), O, fun k _ h => h, HO1.out, HO2.out, ⟨HP3.out.k.trans (HKE.out.mono (fun k _ e => Or.inl e)), ?_⟩⟩
          rw [HSI.out, HTE.out]
          exact HS5.out.o
    · rcases Bool.eq_false_or_eq_true (b.own.testBit i) with hob | hob
      · rcases hm12 with hmb | hmb
        · have hm1 : (((b.mov : Nat) : Int) == 1) = true := by rw [hmb]; rfl
          have HTE : Hid (TV = 1) := hide (by rw [HVI.out]; simp [hkb, hob, hmb])
          have hkn : ((xk : Int) != 0) = false := by rw [HKN.out, hkb]
          have hon : ((xo : Int) != 0) = true := by rw [HON.out, hob]
          clear hkb hob hmb
          gi_wp2
          refine wp_region_round (S := fun W4 => Keeps (fun q => q = cb) W3 W4) (by kernel_rfl) (by kernel_rfl) (by rintro ⟨_, _, h⟩; exact h) ?_
          clear c0 c2 c3 a1 a2 hkn hon hm1
          have SW : Keeps (fun q => q = cb) W3 W3.drew := (Keeps.refl _ W3).drew
          have HOD : Hid (W3.drew.ownsRow cb 3 1 (.slice (some ⟨cb, 0, none⟩) 33 33) 33 (Y.map (Value.int .i64))) := hide HP3.out.o
          generalize W3.drew = wd at *
          have HGK : Hid (∀ W4, Keeps (fun q => q = cb) W3 W4 → W4.cell? ⟨lb, 0, none⟩ = some (.slice (some ⟨cb, 0, none⟩) 33 33)) := hide (fun W4 h4 => (HV3.out.keeps h4 (by omega)).cell (i := 0) rfl)
          refine wpAnyH_take (i := 0) (v := .slice (some ⟨cb, 0, none⟩) 33 33) rfl (by kernel_rfl) (by kernel_rfl) (by kernel_rfl) (fun _ _ _ h => h) (Or.inl ⟨by rfl, ?_⟩) SW ?_
          · intro W4 hW4
            have x0 := HGK.out W4 hW4
            go_simp <;> first | done | rfl | (rw [IntKind.wrap_i64]; omega) | omega
          go_simp
          refine wpAnyH_take (i := 1) (v := .int .u64 (K2 : Nat)) rfl (by kernel_rfl) (by kernel_rfl) (by kernel_rfl) (fun _ _ _ h => h) (Or.inl ⟨by rfl, ?_⟩) SW ?_
          · intro W4 hW4
            go_simp <;> first | done | rfl | (rw [IntKind.wrap_i64]; omega) | omega
          go_simp
          refine wpAnyH_take (i := 3) (v := .int .i64 (1)) rfl (by kernel_rfl) (by kernel_rfl) (by kernel_rfl) (fun _ _ _ h => h) (Or.inl ⟨by rfl, ?_⟩) SW ?_
          · intro W4 hW4
            go_simp <;> first | done | rfl | (rw [IntKind.wrap_i64]; omega) | omega
          go_simp
          refine wpAnyH_ready (rs := [2]) (by kernel_rfl) (by simp) ?_
          refine AllReadyH.cons rfl (fun K1 hK1 => ?_) AllReadyH.nil
          go_simp
          refine (HNU.out _ (HT3.out.keeps SW (by omega))).mono ?_
          rintro r w5 ⟨rfl, hw5⟩
          subst w5
          refine hK1.out _ _ SW (fun SW => ?_)
          clear hK1 K1
          go_simp
          have hn33' : (ni : Int) < 33 := by omega
          refine wpAnyH_ready (rs := [4]) (by kernel_rfl) (by simp) ?_
          refine AllReadyH.cons rfl (fun K1 hK1 => ?_) AllReadyH.nil
          go_simp
          refine hK1.out _ _ SW (fun SW => ?_)
          clear hK1 K1
          go_simp
          have hpw : PW wd cb cb 33 33 wd Y := ⟨Keeps.refl _ _, HOD.out⟩
          obtain ⟨⟨v1, c1⟩, f1⟩ := hpw.cell hn33
          have HS5 := hide (hpw.set ni (1))
          clear hpw
          refine wpAnyH_ready (rs := [5]) (by kernel_rfl) (by simp) ?_
          refine AllReadyH.cons rfl (fun K1 hK1 => ?_) AllReadyH.nil
          go_simp
          refine hK1.out _ _ (SW.trans HS5.out.k) (fun SW => ?_)
          clear hK1 K1 c1 f1
          generalize wd.setCell ⟨cb, ni, none⟩ (.int .i64 (1)) = we at *
          go_simp
          refine wpAnyH_done (by kernel_rfl) ?_ _
          have HKE := hide SW
          clear SW
          gi_wp2
          refine ⟨HKE.out.mono (fun k _ e => e ▸ HO2.out), O, fun k _ h => h, HO1.out, HO2.out, ⟨HP3.out.k.trans (HKE.out.mono (fun k _ e => Or.inl e)), ?_⟩⟩
          rw [HSI.out, HTE.out]
          exact HS5.out.o
        · have hm1 : (((b.mov : Nat) : Int) == 1) = false := by rw [hmb]; rfl
          have HTE : Hid (TV = -1) := hide (by rw [HVI.out]; simp [hkb, hob, hmb])
          have hkn : ((xk : Int) != 0) = false := by rw [HKN.out, hkb]
          have hon : ((xo : Int) != 0) = true := by rw [HON.out, hob]
          clear hkb hob hmb
          gi_wp2
          refine wp_region_round (S := fun W4 => Keeps (fun q => q = cb) W3 W4) (by kernel_rfl) (by kernel_rfl) (by rintro ⟨_, _, h⟩; exact h) ?_
          clear c0 c2 c3 a1 a2 hkn hon hm1
          have SW : Keeps (fun q => q = cb) W3 W3.drew := (Keeps.refl _ W3).drew
          have HOD : Hid (W3.drew.ownsRow cb 3 1 (.slice (some ⟨cb, 0, none⟩) 33 33) 33 (Y.map (Value.int .i64))) := hide HP3.out.o
          generalize W3.drew = wd at *
          have HGK : Hid (∀ W4, Keeps (fun q => q = cb) W3 W4 → W4.cell? ⟨lb, 0, none⟩ = some (.slice (some ⟨cb, 0, none⟩) 33 33)) := hide (fun W4 h4 => (HV3.out.keeps h4 (by omega)).cell (i := 0) rfl)
          refine wpAnyH_take (i := 0) (v := .slice (some ⟨cb, 0, none⟩) 33 33) rfl (by kernel_rfl) (by kernel_rfl) (by kernel_rfl) (fun _ _ _ h => h) (Or.inl ⟨by rfl, ?_⟩) SW ?_
          · intro W4 hW4
            have x0 := HGK.out W4 hW4
            go_simp <;> first | done | rfl | (rw [IntKind.wrap_i64]; omega) | omega
          go_simp
          refine wpAnyH_take (i := 1) (v := .int .u64 (K2 : Nat)) rfl (by kernel_rfl) (by kernel_rfl) (by kernel_rfl) (fun _ _ _ h => h) (Or.inl ⟨by rfl, ?_⟩) SW ?_
          · intro W4 hW4
            go_simp <;> first | done | rfl | (rw [IntKind.wrap_i64]; omega) | omega
          go_simp
          refine wpAnyH_take (i := 3) (v := .int .i64 (-1)) rfl (by kernel_rfl) (by kernel_rfl) (by kernel_rfl) (fun _ _ _ h => h) (Or.inl ⟨by rfl, ?_⟩) SW ?_
          · intro W4 hW4
            go_simp <;> first | done | rfl | (rw [IntKind.wrap_i64]; omega) | omega
          go_simp
          refine wpAnyH_ready (rs := [2]) (by kernel_rfl) (by simp) ?_
          refine AllReadyH.cons rfl (fun K1 hK1 => ?_) AllReadyH.nil
          go_simp
          refine (HNU.out _ (HT3.out.keeps SW (by omega))).mono ?_
          rintro r w5 ⟨rfl, hw5⟩
          subst w5
          refine hK1.out _ _ SW (fun SW => ?_)
          clear hK1 K1
          go_simp
          have hn33' : (ni : Int) < 33 := by omega
          refine wpAnyH_ready (rs := [4]) (by kernel_rfl) (by simp) ?_
          refine AllReadyH.cons rfl (fun K1 hK1 => ?_) AllReadyH.nil
          go_simp
          refine hK1.out _ _ SW (fun SW => ?_)
          clear hK1 K1
          go_simp
          have hpw : PW wd cb cb 33 33 wd Y := ⟨Keeps.refl _ _, HOD.out⟩
          obtain ⟨⟨v1, c1⟩, f1⟩ := hpw.cell hn33
          have HS5 := hide (hpw.set ni (-1))
          clear hpw
          refine wpAnyH_ready (rs := [5]) (by kernel_rfl) (by simp) ?_
          refine AllReadyH.cons rfl (fun K1 hK1 => ?_) AllReadyH.nil
          go_simp
          refine hK1.out _ _ (SW.trans HS5.out.k) (fun SW => ?_)
          clear hK1 K1 c1 f1
          generalize wd.setCell ⟨cb, ni, none⟩ (.int .i64 (-1)) = we at *
          go_simp
          refine wpAnyH_done (by kernel_rfl) ?_ _
          have HKE := hide SW
          clear SW
          gi_wp2
          refine ⟨HKE.out.mono (fun k _ e => e ▸ HO2.out), O, fun k _ h => h, HO1.out, HO2.out, ⟨HP3.out.k.trans (HKE.out.mono (fun k _ e => Or.inl e)), ?_⟩⟩
          rw [HSI.out, HTE.out]
          exact HS5.out.o
      · rcases hm12 with hmb | hmb
        · have hm1 : (((b.mov : Nat) : Int) == 1) = true := by rw [hmb]; rfl
          have HTE : Hid (TV = -1) := hide (by rw [HVI.out]; simp [hkb, hob, hmb])
          have hkn : ((xk : Int) != 0) = false := by rw [HKN.out, hkb]
          have hon : ((xo : Int) != 0) = false := by rw [HON.out, hob]
          clear hkb hob hmb
          gi_wp2
          refine wp_region_round (S := fun W4 => Keeps (fun q => q = cb) W3 W4) (by kernel_rfl) (by kernel_rfl) (by rintro ⟨_, _, h⟩; exact h) ?_
          clear c0 c2 c3 a1 a2 hkn hon hm1
          have SW : Keeps (fun q => q = cb) W3 W3.drew := (Keeps.refl _ W3).drew
          have HOD : Hid (W3.drew.ownsRow cb 3 1 (.slice (some ⟨cb, 0, none⟩) 33 33) 33 (Y.map (Value.int .i64))) := hide HP3.out.o
          generalize W3.drew = wd at *
          have HGK : Hid (∀ W4, Keeps (fun q => q = cb) W3 W4 → W4.cell? ⟨lb, 0, none⟩ = some (.slice (some ⟨cb, 0, none⟩) 33 33)) := hide (fun W4 h4 => (HV3.out.keeps h4 (by omega)).cell (i := 0) rfl)
          refine wpAnyH_take (i := 0) (v := .slice (some ⟨cb, 0, none⟩) 33 33) rfl (by kernel_rfl) (by kernel_rfl) (by kernel_rfl) (fun _ _ _ h => h) (Or.inl ⟨by rfl, ?_⟩) SW ?_
          · intro W4 hW4
            have x0 := HGK.out W4 hW4
            go_simp <;> first | done | rfl | (rw [IntKind.wrap_i64]; omega) | omega
          go_simp
          refine wpAnyH_take (i := 1) (v := .int .u64 (K2 : Nat)) rfl (by kernel_rfl) (by kernel_rfl) (by kernel_rfl) (fun _ _ _ h => h) (Or.inl ⟨by rfl, ?_⟩) SW ?_
          · intro W4 hW4
            go_simp <;> first | done | rfl | (rw [IntKind.wrap_i64]; omega) | omega
          go_simp
          refine wpAnyH_take (i := 3) (v := .int .i64 (-1)) rfl (by kernel_rfl) (by kernel_rfl) (by kernel_rfl) (fun _ _ _ h => h) (Or.inl ⟨by rfl, ?_⟩) SW ?_
          · intro W4 hW4
            go_simp <;> first | done | rfl | (rw [IntKind.wrap_i64]; omega) | omega
          go_simp
          refine wpAnyH_ready (rs := [2]) (by kernel_rfl) (by simp) ?_
          refine AllReadyH.cons rfl (fun K1 hK1 => ?_) AllReadyH.nil
          go_simp
          refine (HNU.out _ (HT3.out.keeps SW (by omega))).mono ?_
          rintro r w5 ⟨rfl, hw5⟩
          subst w5
          refine hK1.out _ _ SW (fun SW => ?_)
          clear hK1 K1
          go_simp
          have hn33' : (ni : Int) < 33 := by omega
          refine wpAnyH_ready (rs := [4]) (by kernel_rfl) (by simp) ?_
          refine AllReadyH.cons rfl (fun K1 hK1 => ?_) AllReadyH.nil
          go_simp
          refine hK1.out _ _ SW (fun SW => ?_)
          clear hK1 K1
          go_simp
          have hpw : PW wd cb cb 33 33 wd Y := ⟨Keeps.refl _ _, HOD.out⟩
          obtain ⟨⟨v1, c1⟩, f1⟩ := hpw.cell hn33
          have HS5 := hide (hpw.set ni (-1))
          clear hpw
          refine wpAnyH_ready (rs := [5]) (by kernel_rfl) (by simp) ?_
          refine AllReadyH.cons rfl (fun K1 hK1 => ?_) AllReadyH.nil
          go_simp
          refine hK1.out _ _ (SW.trans HS5.out.k) (fun SW => ?_)
          clear hK1 K1 c1 f1
          generalize wd.setCell ⟨cb, ni, none⟩ (.int .i64 (-1)) = we at *
          go_simp
          refine wpAnyH_done (by kernel_rfl) ?_ _
          have HKE := hide SW
          clear SW
          gi_wp2
          refine ⟨HKE.out.mono (fun k _ e => e ▸ HO2.out), O, fun k _ h => h, HO1.out, HO2.out, ⟨HP3.out.k.trans (HKE.out.mono (fun k _ e => Or.inl e)), ?_⟩⟩
          rw [HSI.out, HTE.out]
          exact HS5.out.o
        · have hm1 : (((b.mov : Nat) : Int) == 1) = false := by rw [hmb]; rfl
          have HTE : Hid (TV = 1) := hide (by rw [HVI.out]; simp [hkb, hob, hmb])
          have hkn : ((xk : Int) != 0) = false := by rw [HKN.out, hkb]
          have hon : ((xo : Int) != 0) = false := by rw [HON.out, hob]
          clear hkb hob hmb
          gi_wp2
          refine wp_region_round (S := fun W4 => Keeps (fun q => q = cb) W3 W4) (by kernel_rfl) (by kernel_rfl) (by rintro ⟨_, _, h⟩; exact h) ?_
          clear c0 c2 c3 a1 a2 hkn hon hm1
          have SW : Keeps (fun q => q = cb) W3 W3.drew := (Keeps.refl _ W3).drew
          have HOD : Hid (W3.drew.ownsRow cb 3 1 (.slice (some ⟨cb, 0, none⟩) 33 33) 33 (Y.map (Value.int .i64))) := hide HP3.out.o
          generalize W3.drew = wd at *
          have HGK : Hid (∀ W4, Keeps (fun q => q = cb) W3 W4 → W4.cell? ⟨lb, 0, none⟩ = some (.slice (some ⟨cb, 0, none⟩) 33 33)) := hide (fun W4 h4 => (HV3.out.keeps h4 (by omega)).cell (i := 0) rfl)
          refine wpAnyH_take (i := 0) (v := .slice (some ⟨cb, 0, none⟩) 33 33) rfl (by kernel_rfl) (by kernel_rfl) (by kernel_rfl) (fun _ _ _ h => h) (Or.inl ⟨by rfl, ?_⟩) SW ?_
          · intro W4 hW4
            have x0 := HGK.out W4 hW4
            go_simp <;> first | done | rfl | (rw [IntKind.wrap_i64]; omega) | omega
          go_simp
          refine wpAnyH_take (i := 1) (v := .int .u64 (K2 : Nat)) rfl (by kernel_rfl) (by kernel_rfl) (by kernel_rfl) (fun _ _ _ h => h) (Or.inl ⟨by rfl, ?_⟩) SW ?_
          · intro W4 hW4
            go_simp <;> first | done | rfl | (rw [IntKind.wrap_i64]; omega) | omega
          go_simp
          refine wpAnyH_take (i := 3) (v := .int .i64 (1)) rfl (by kernel_rfl) (by kernel_rfl) (by kernel_rfl) (fun _ _ _ h => h) (Or.inl ⟨by rfl, ?_⟩) SW ?_
          · intro W4 hW4
            go_simp <;> first | done | rfl | (rw [IntKind.wrap_i64]; omega) | omega
          go_simp
          refine wpAnyH_ready (rs := [2]) (by kernel_rfl) (by simp) ?_
          refine AllReadyH.cons rfl (fun K1 hK1 => ?_) AllReadyH.nil
          go_simp
          refine (HNU.out _ (HT3.out.keeps SW (by omega))).mono ?_
          rintro r w5 ⟨rfl, hw5⟩
          subst w5
          refine hK1.out _ _ SW (fun SW => ?_)
          clear hK1 K1
          go_simp
          have hn33' : (ni : Int) < 33 := by omega
          refine wpAnyH_ready (rs := [4]) (by kernel_rfl) (by simp) ?_
          refine AllReadyH.cons rfl (fun K1 hK1 => ?_) AllReadyH.nil
          go_simp
          refine hK1.out _ _ SW (fun SW => ?_)
          clear hK1 K1
          go_simp
          have hpw : PW wd cb cb 33 33 wd Y := ⟨Keeps.refl _ _, HOD.out⟩
          obtain ⟨⟨v1, c1⟩, f1⟩ := hpw.cell hn33
          have HS5 := hide (hpw.set ni (1))
          clear hpw
          refine wpAnyH_ready (rs := [5]) (by kernel_rfl) (by simp) ?_
          refine AllReadyH.cons rfl (fun K1 hK1 => ?_) AllReadyH.nil
          go_simp
          refine hK1.out _ _ (SW.trans HS5.out.k) (fun SW => ?_)
          clear hK1 K1 c1 f1
          generalize wd.setCell ⟨cb, ni, none⟩ (.int .i64 (1)) = we at *
          go_simp
          refine wpAnyH_done (by kernel_rfl) ?_ _
          have HKE := hide SW
          clear SW
          gi_wp2
          refine ⟨HKE.out.mono (fun k _ e => e ▸ HO2.out), O, fun k _ h => h, HO1.out, HO2.out, ⟨HP3.out.k.trans (HKE.out.mono (fun k _ e => Or.inl e)), ?_⟩⟩
          rw [HSI.out, HTE.out]
          exact HS5.out.o
  case done =>
    rintro D O W6 hD ⟨h1, h2, h3⟩ hk6 hm6 hK
    have VB6 := HVB.out.keeps h3.k (by omega)
    have c3 : W6.cell? ⟨w.heap.size, 3, none⟩ = some (.int .i64 (b.mov : Nat)) := VB6.cell (i := 3) rfl
    have cl : W6.cell? ⟨lb, 0, none⟩ = some (.slice (some ⟨cb, 0, none⟩) 33 33) := (HV4.out.keeps h3.k (by omega)).cell (i := 0) rfl
    have Z6 := HZ4.out.keeps h3.k (by omega)
    have HP6 := hide h3
    have hsz6 := h3.k.size
    clear h1 h2 h3 hk6 hm6 VB6
    go_wp2_with (refine wpList_store_dg rfl (.tmp 2) (.tmp 38) rfl (w.heap.size + 1) rfl rfl Z6 ?_; intro w7 k7 kk7)
    have hDl : D < W6.heap.size := (Array.getElem?_eq_some_iff.1 hK).1
    have hK7 : w7.heap[D]? = some (.deferred (some [])) := (kk7.block D hDl (by show ¬ D = w.heap.size + 1; omega)).trans hK
    have KP := Keeps.put (X := fun k => k = D) (Keeps.refl _ w7) (l := D) rfl (.deferred none)
    have k8 := k7.keeps KP (by show ¬ w.heap.size + 1 = D; omega)
    have HO8 : Hid ((w7.putObj D (.deferred none)).ownsRow cb 3 1 (.slice (some ⟨cb, 0, none⟩) 33 33) 33 ((tol b).map (Value.int .i64))) := hide (by
      rw [HTOL.out]
      refine own_blk HP6.out.o (fun g hg => ?_)
      have : cb = g := by simpa [Value.ownBlock] using hg
      subst this
      have hcl := (HP6.out.o.lt cb rfl).2
      exact (KP.block cb (Nat.lt_of_lt_of_le hcl kk7.size) (by show ¬ cb = D; omega)).trans (kk7.block cb hcl (by show ¬ cb = w.heap.size + 1; omega)))
    have HBF : Hid (Below w.heap.size w (w7.putObj D (.deferred none))) := hide (HB4.out.trans ((((HP6.out.k.mono (Y := fun k => w.heap.size ≤ k) (fun k _ e => by omega)).trans (kk7.mono (fun k _ e => by omega))).trans (KP.mono (fun k _ e => by omega))).below HB4.out.size (fun k hk e => by omega)))
    refine ⟨by simp, .inl ⟨_, _, rfl, run_takeDeferred hK7, ?_⟩⟩
    exact ⟨_, results_dg rfl _ _ (w.heap.size + 1) rfl k8, _, _, rfl, own_base HO8.out (by omega), HBF.out⟩

end Go.Proofs.YtnbaangnpoblfaaDoor
