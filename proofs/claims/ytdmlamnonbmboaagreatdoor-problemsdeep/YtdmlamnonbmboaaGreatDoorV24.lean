/-
  Chess: may a castling be: nothing in the way, nothing attacked: walked. No conditions beyond those that each theorem bears.
-/
import Derived.Test.YtdmlamnonbmboaaGreatDoorV23
namespace Go.Proofs.YtdmlamnonbmboaaGreatDoor
open Go.RowKit Go.Shelf

theorem Vb.old {w : World} {b t : Nat} {L : List Value} (h : Vb w b t L) (o : Obj) : Vb (w.alloc o) b t L := (Below.heap_alloc w o b h.lt).trans h

theorem wp_calm {P : Program} {c : Code} {K : Act → World → Prop} {Q : Exit → Act → World → Prop} {a : Act} {w : World} (h : c.wp P (Exit.then K (fun _ _ _ => False)) a w) : c.wp P (Exit.then K Q) a w := wp_mono h (fun e _ _ h => by cases e <;> first | exact h | exact h.elim)

theorem between_any (s kn rn : Nat) (w : World) : Calls Tryz.prog 160 #[.agg #[.int .i64 (s : Nat), .int .i64 (kn : Nat), .int .i64 (rn : Nat)]] w fun r w' => r = .returned (.func (.func 170) #[] #[.pointer (some ⟨w.heap.size, 0, none⟩)]) ∧ w' = w.alloc (.cells #[.int .i64 (s : Nat), .int .i64 (kn : Nat), .int .i64 (rn : Nat)] 106) := by
  go_enter Tryz.func160, Tryz.ntmps160
  go_wp2
  go_ret
  exact ⟨rfl, rfl⟩

/-- What is held while the places between are looked at: g: the answer's place. -/
structure McI (g : Nat) (w : World) (Z : List Int) (O : Nat → Prop) (s : List Nat) (V : World) : Prop where
  o : ∀ j, O j ↔ j = g
  a : Vb V g 4 [.bool false]
  all : s.all (fun p => zg Z p == 0) = true
  bl : Below g w V

/-- What holds behind it. -/
structure SmH (g D : Nat) (w V : World) : Prop where
  bl : Below g w V
  v : ∃ x, Vb V g 4 [.bool x]
  dd : V.heap[D]? = some (.deferred (some []))
theorem SmH.mono {g D : Nat} {w V V' : World} (h : SmH g D w V) (hb : Below V.heap.size V V') : SmH g D w V' := by
  obtain ⟨x, hx⟩ := h.v
  exact ⟨h.bl.trans (hb.mono (Nat.le_of_lt hx.lt)), ⟨x, hx.mono hb⟩, (hb.block D (Array.getElem?_eq_some_iff.1 h.dd).1).trans h.dd⟩
theorem SmH.set {g D : Nat} {w V : World} (h : SmH g D w V) (hD : g ≠ D) (y : Bool) : SmH g D w (V.setCell ⟨g, 0, none⟩ (.bool y)) ∧ Vb (V.setCell ⟨g, 0, none⟩ (.bool y)) g 4 [.bool y] := by
  obtain ⟨x, hx⟩ := h.v
  have kk := Keeps.set1 V g 0 (.bool y)
  have hv := hx.set 0 (.bool y)
  exact ⟨⟨h.bl.trans (kk.below (Nat.le_of_lt hx.lt) (fun j hj e => by omega)), ⟨y, hv⟩, (kk.block D (Array.getElem?_eq_some_iff.1 h.dd).1 (fun e => hD e.symm)).trans h.dd⟩, hv⟩

attribute [local irreducible] atk
attribute [local go_sem] Oper.semAt_some wide_fn wide_fn0 wide_depth

set_option maxRecDepth 100000 in
set_option maxHeartbeats 8000000 in
theorem mayCastleS_any (b : Nat) (Z : List Int) (t : Nat) (k e h f : Int) (ht : t ≤ 1) (s kn rn o q : Nat) (d : Int) (xs : List Nat) (hB : Bw kn rn o d xs) (hq : (kn : Int) + 2 * d = (q : Int)) (ho64 : o < 64) (hq64 : q < 64) (w : World) (hs : Sb w b Z (t : Nat) k e h f) (hT : TabS w) :
    Calls Tryz.prog 142 #[.pointer (some ⟨b, 0, none⟩), .agg #[.int .i64 (s : Nat), .int .i64 (kn : Nat), .int .i64 (rn : Nat)]] w fun r w' => r = .returned (.bool (xs.all (fun p => zg Z p == 0) && decide (atk Z kn (1 - t) = []) && decide (atk Z o (1 - t) = []) && decide (atk Z q (1 - t) = []))) ∧ Below w.heap.size w w' := by
  obtain ⟨RR, hRR⟩ : ∃ RR, (xs.all (fun p => zg Z p == 0) && decide (atk Z kn (1 - t) = []) && decide (atk Z o (1 - t) = []) && decide (atk Z q (1 - t) = [])) = RR := ⟨_, rfl⟩
  rw [hRR]
  have HRR := hide hRR
  clear hRR
  obtain ⟨w1, hw1⟩ : ∃ w1, ((w.alloc (.cells #[.pointer (some ⟨b, 0, none⟩)] 80)).alloc (.cells #[.int .i64 (s : Nat), .int .i64 (kn : Nat), .int .i64 (rn : Nat)] 106)).alloc (.cells #[.bool false] 4) = w1 := ⟨_, rfl⟩
  have s1 : w1.heap.size = w.heap.size + 3 := by rw [← hw1]; simp
  have B1 : Below w.heap.size w w1 := by rw [← hw1]; exact (((Below.refl _ w).alloc (Nat.le_refl _) _).alloc (by simp) _).alloc (by simp; omega) _
  have V0 : Vb w1 w.heap.size 80 [.pointer (some ⟨b, 0, none⟩)] := by rw [← hw1]; exact ((Vb.new w 80 _).old _).old _
  have V1 : Vb w1 (w.heap.size + 1) 106 [.int .i64 (s : Nat), .int .i64 (kn : Nat), .int .i64 (rn : Nat)] := by
    rw [← hw1]
    have := Vb.new (w.alloc (.cells #[.pointer (some ⟨b, 0, none⟩)] 80)) 106 [.int .i64 (s : Nat), .int .i64 (kn : Nat), .int .i64 (rn : Nat)]
    rw [World.size_alloc] at this
    exact this.old _
  have V2 : Vb w1 (w.heap.size + 2) 4 [.bool false] := by
    rw [← hw1]
    have := Vb.new ((w.alloc (.cells #[.pointer (some ⟨b, 0, none⟩)] 80)).alloc (.cells #[.int .i64 (s : Nat), .int .i64 (kn : Nat), .int .i64 (rn : Nat)] 106)) 4 [.bool false]
    rw [World.size_alloc, World.size_alloc] at this
    exact this
  have S1 := hs.mono B1
  have hbl := hs.lt
  have HSB : Hid (∀ W, Below (w.heap.size + 2) w1 W → Sb W b Z (t : Nat) k e h f ∧ TabS W) := hide (fun W hb => ⟨S1.below hb (by omega), fun i hi => (hb.cell (p := ⟨1, i, none⟩) (by have := hT.lt; show 1 < _; omega)).trans ((hT.mono B1) i hi)⟩)
  have HP0 : Hid (∀ W, Below (w.heap.size + 2) w1 W → Vb W w.heap.size 80 [.pointer (some ⟨b, 0, none⟩)]) := hide (fun W hb => V0.below hb (by omega))
  have HC1 : Hid (∀ W, Below (w.heap.size + 2) w1 W → Vb W (w.heap.size + 1) 106 [.int .i64 (s : Nat), .int .i64 (kn : Nat), .int .i64 (rn : Nat)]) := hide (fun W hb => V1.below hb (by omega))
  have HEM : Hid (∀ W, Below (w.heap.size + 2) w1 W → ∀ p, p < 64 → Calls Tryz.prog 53 #[.pointer (some ⟨b, 0, none⟩), .int .i64 (p : Nat)] W fun r w' => r = .returned (.bool (zg Z p == 0)) ∧ w' = W) := hide (fun W hb p hp => empty_any b Z t k e h f p hp W (HSB.out W hb).1)
  have HAT : Hid (∀ W, Below (w.heap.size + 2) w1 W → ∀ p, p < 64 → Calls Tryz.prog 83 #[.pointer (some ⟨b, 0, none⟩), .int .i64 (p : Nat)] W fun r w' => r = .returned (.bool (decide (atk Z p (1 - t) ≠ []))) ∧ Below W.heap.size W w') := hide (fun W hb p hp => attackedS_any b Z t k e h f ht p hp W (HSB.out W hb).1 (HSB.out W hb).2)
  have HOV := hide (over_any s kn rn o d hB.dd hB.oo hB.k64)
  have HTO := hide (to_any s kn rn q d hB.dd hq hB.k64)
  have HSQ := hide (fun cb => between1_o cb s kn rn o d xs hB)
  have hx64 : ∀ p ∈ xs, p < 64 := fun p hp => by
    obtain ⟨j, hj, e⟩ := List.getElem_of_mem hp
    have := hB.lt j (by omega)
    rw [← e]
    simpa [List.getD, List.getElem?_append_left hj, hj] using this
  have HX64 := hide hx64
  have HK64 := hide hB.k64
  have HV2 := hide V2
  have HB1 := hide B1
  have HS1 := hide s1
  have c0 := V1.cell (i := 0) rfl
  have c1 := V1.cell (i := 1) rfl
  have c2 := V1.cell (i := 2) rfl
  clear V0 V1 V2 B1 s1 S1 hs hT hB hx64 ht hbl
  refine (callsIn_wide (n := 3)).1 ?_
  refine callsIn_of_wp_marks Tryz.func142 rfl trivial ?_ rfl
  simp only [Tryz.ntmps142, List.size_toArray, List.length_cons, List.length_nil, Nat.reduceAdd, Nat.reduceSub, Array.replicate_succ, Array.replicate_zero, List.push_toArray, List.append_toArray, List.nil_append, List.cons_append]
  refine wpIn_wide.2 ?_
  go_upto_region 1 with fail
  clear hw1
  go_wp2_with fail
  refine (between_any s kn rn _).mono ?_
  rintro r w2 ⟨rfl, hw2⟩
  have B2 : Below w1.heap.size w1 w2 := by rw [hw2]; exact (Below.refl _ _).alloc (Nat.le_refl _) _
  have s2 : w2.heap.size = w1.heap.size + 1 := by rw [hw2]; simp
  have C2 : Cb w2 w1.heap.size s kn rn := by rw [hw2]; exact Vb.new w1 106 _
  have HI2 : Hid (McI (w.heap.size + 2) w1 Z (fun j => j = w.heap.size + 2) [] w2) := hide ⟨fun j => Iff.rfl, HV2.out.mono B2, rfl, B2.mono (by have := HS1.out; omega)⟩
  have HS2 : Hid (w1.heap.size = w.heap.size + 3 ∧ w2.heap.size = w.heap.size + 4) := hide ⟨HS1.out, by rw [s2, HS1.out]⟩
  have HC2 := hide C2
  clear hw2 B2 s2 C2 c0 c1 c2
  go_wp2_with fail
  refine (wpIn_wide (n := 1)).1 (wp_range_o (gf := 170) (lb := #[.pointer (some ⟨w1.heap.size, 0, none⟩)]) (G := RcG) (xs := xs) (R := fun W => Cb W w1.heap.size s kn rn) (T := fun j => j = w1.heap.size) (by simp [Act.eval]) (enters_of Tryz.func170 (by kernel_rfl) rfl)
    (HSQ.out _) (fun j hj => by have := HS2.out; omega) (fun A hA => Vb.mono HC2.out hA) (fun x args W' hG => by rw [hG]; rfl)
    (fun O s W' => McI (w.heap.size + 2) w1 Z O s W') (fun d O W' => d = .ret ∧ (∀ j, O j ↔ j = w.heap.size + 2) ∧ Vb W' (w.heap.size + 2) 4 [.bool false] ∧ xs.all (fun p => zg Z p == 0) = false ∧ Below (w.heap.size + 2) w1 W') (fun j => j = w.heap.size + 2) ?hC HI2.out ?round ?done ?stop)
  case hC =>
    intro d
    have z1 := HS2.out
    refine ⟨?_, ?_, ?_, ?_⟩
    · rintro O s A h j hj
      obtain rfl := (h.o j).1 hj
      exact ⟨h.a.lt, fun e => by omega⟩
    · rintro O A ⟨_, h1, h2, _, _⟩ j hj
      obtain rfl := (h1 j).1 hj
      exact ⟨h2.lt, fun e => by omega⟩
    · rintro O s A B h hk
      exact ⟨h.o, h.a.keeps hk (fun e => by omega), h.all, h.bl.trans (hk.below (Nat.le_of_lt h.a.lt) (fun j hj e => by omega))⟩
    · rintro O A B ⟨h0, h1, h2, h3, h4⟩ hk
      exact ⟨h0, h1, h2.keeps hk (fun e => by omega), h3, h4.trans (hk.below (Nat.le_of_lt h2.lt) (fun j hj e => by omega))⟩
  case round =>
    rintro l2 O sx y args W6 hl2 ⟨rec, hrec⟩ hI6 hOl _ _ hpre hGx hsz6
    obtain rfl : args = #[.int .i64 (y : Nat)] := hGx
    have hyx := hpre.subset (show y ∈ sx ++ [y] by simp)
    have hy64 := HX64.out y hyx
    have HXN : Hid (zg Z y ≠ 0 → xs.all (fun p => zg Z p == 0) = false) := hide (fun hne => by
      rw [Bool.eq_false_iff]
      intro ha
      have := List.all_eq_true.1 ha y hyx
      exact hne (by simpa using this))
    have HI6 := hide hI6
    have HSZ6 := hide hsz6
    have HL2 := hide hl2
    clear hI6 hpre hrec hOl hsz6 hyx hl2
    gi_wp2
    refine ⟨Below.refl _ _, ?_⟩
    intro W7 hk7
    have z1 := HS2.out
    have z3 := HSZ6.out
    have z4 := HL2.out
    have I7 : McI (w.heap.size + 2) w1 Z O sx W7 := ⟨HI6.out.o, HI6.out.a.keeps hk7 (fun e => by omega), HI6.out.all, HI6.out.bl.trans (hk7.below (Nat.le_of_lt HI6.out.a.lt) (fun j hj e => by omega))⟩
    have HI7 := hide I7
    have p0 := (HP0.out W7 I7.bl).cell (i := 0) rfl
    have HEY := hide (HEM.out W7 I7.bl y hy64)
    have ca := I7.a.cell (i := 0) rfl
    have fa := I7.a.frozen 0
    have HV9 : Hid (Vb (W7.setCell ⟨w.heap.size + 2, 0, none⟩ (.bool false)) (w.heap.size + 2) 4 [.bool false]) := hide (I7.a.set 0 (.bool false))
    have kk : Keeps (fun j => j = w.heap.size + 2) W7 (W7.setCell ⟨w.heap.size + 2, 0, none⟩ (.bool false)) := Keeps.set1 _ _ _ _
    have HK9 : Hid (Keeps O W7 (W7.setCell ⟨w.heap.size + 2, 0, none⟩ (.bool false))) := hide (kk.mono (fun j _ e => (HI7.out.o j).2 e))
    have HB9 : Hid (Below (w.heap.size + 2) w1 (W7.setCell ⟨w.heap.size + 2, 0, none⟩ (.bool false))) := hide (I7.bl.trans (kk.below (Nat.le_of_lt I7.a.lt) (fun j hj e => by omega)))
    clear HI6 hk7 z1 z3 z4 I7 kk
    by_cases hzy : zg Z y = 0
    · have b1 : (zg Z y == 0) = true := by simp [hzy]
      have HAL : Hid ((sx ++ [y]).all (fun p => zg Z p == 0) = true) := hide (by rw [List.all_append, HI7.out.all]; simp [hzy])
      rw [b1] at HEY
      clear HXN HV9 HK9 HB9 ca fa
      gi_wp2
      refine (CallsIn.inRound l2 (callsIn_wide.2 HEY.out)).mono ?_
      rintro r w5 ⟨rfl, hw5⟩
      subst w5
      gi_wp2
      exact ⟨Keeps.refl _ _, O, fun _ _ h => h, HI7.out.o, HI7.out.a, HAL.out, HI7.out.bl⟩
    · have b1 : (zg Z y == 0) = false := by simp [hzy]
      rw [b1] at HEY
      have HXF := hide (HXN.out hzy)
      clear HXN
      gi_wp2
      refine (CallsIn.inRound l2 (callsIn_wide.2 HEY.out)).mono ?_
      rintro r w5 ⟨rfl, hw5⟩
      subst w5
      gi_wp2
      exact ⟨HK9.out, O, fun _ _ h => h, rfl, HI7.out.o, HV9.out, HXF.out, HB9.out⟩
  case done =>
    rintro D O W6 hD hI6 hk6 hm6 hKD
    have z2 := HS2.out
    have HALL := hide hI6.all
    rw [HALL.out, Bool.true_and] at HRR
    have HA1 : Hid (∀ W, Below (w.heap.size + 2) w1 W → Calls Tryz.prog 83 #[.pointer (some ⟨b, 0, none⟩), .int .i64 (kn : Nat)] W fun r w' => r = .returned (.bool (decide (atk Z kn (1 - t) ≠ []))) ∧ Below W.heap.size W w') := hide (fun W hb => HAT.out W hb kn HK64.out)
    have HA2 : Hid (∀ W, Below (w.heap.size + 2) w1 W → Calls Tryz.prog 83 #[.pointer (some ⟨b, 0, none⟩), .int .i64 (o : Nat)] W fun r w' => r = .returned (.bool (decide (atk Z o (1 - t) ≠ []))) ∧ Below W.heap.size W w') := hide (fun W hb => HAT.out W hb o ho64)
    have HA3 : Hid (∀ W, Below (w.heap.size + 2) w1 W → Calls Tryz.prog 83 #[.pointer (some ⟨b, 0, none⟩), .int .i64 (q : Nat)] W fun r w' => r = .returned (.bool (decide (atk Z q (1 - t) ≠ []))) ∧ Below W.heap.size W w') := hide (fun W hb => HAT.out W hb q hq64)
    have SW0 : SmH (w.heap.size + 2) D w1 W6 := ⟨hI6.bl, ⟨false, hI6.a⟩, hKD⟩
    have HDD : Hid (D = w.heap.size + 4) := hide (by rw [hD]; exact z2.2)
    clear hI6 hk6 hm6 hKD hD z2
    go_upto_region 5 with fail
    refine wp_calm ?_
    refine wp_region_held (S := fun W5 => SmH (w.heap.size + 2) D w1 W5) (by kernel_rfl) ?_
    change wpAnyH _ _ _ _ _ _ _ _ (World.drew _)
    have SW : SmH (w.heap.size + 2) D w1 W6.drew := SW0.mono (drewN_below _ _ 1)
    clear SW0
    by_cases h1 : atk Z kn (1 - t) = []
    · have d1 : decide (atk Z kn (1 - t) ≠ []) = false := decide_eq_false (fun h => h h1)
      rw [d1] at HA1
      by_cases h2 : atk Z o (1 - t) = []
      · have d2 : decide (atk Z o (1 - t) ≠ []) = false := decide_eq_false (fun h => h h2)
        rw [d2] at HA2
        by_cases h3 : atk Z q (1 - t) = []
        · have d3 : decide (atk Z q (1 - t) ≠ []) = false := decide_eq_false (fun h => h h3)
          rw [d3] at HA3
          have hRF : RR = true := by rw [← HRR.out, decide_eq_true h1, decide_eq_true h2, decide_eq_true h3]; rfl
          subst hRF
          clear d1 d2 d3 h1 h2 h3
          refine wpAnyH_take (i := 0) (v := .pointer (some ⟨b, 0, none⟩)) rfl (by kernel_rfl) (by kernel_rfl) (by kernel_rfl) (fun _ _ _ h => h) (Or.inl ⟨by rfl, ?_⟩) SW ?_
          · intro W5 hW5
            have x0 := (HP0.out W5 hW5.bl).cell (i := 0) rfl
            go_simp <;> first | done | rfl | (rw [IntKind.wrap_i64]; omega) | omega
          go_simp
          refine wpAnyH_take (i := 1) (v := .pointer (some ⟨w.heap.size + 1, 1, none⟩)) rfl (by kernel_rfl) (by kernel_rfl) (by kernel_rfl) (fun _ _ _ h => h) (Or.inl ⟨by rfl, ?_⟩) SW ?_
          · intro W5 hW5
            go_simp <;> first | done | rfl | (rw [IntKind.wrap_i64]; omega) | omega
          go_simp
          refine wpAnyH_take (i := 2) (v := .int .i64 (kn : Nat)) rfl (by kernel_rfl) (by kernel_rfl) (by kernel_rfl) (fun _ _ _ h => h) (Or.inl ⟨by rfl, ?_⟩) SW ?_
          · intro W5 hW5
            have x1 := (HC1.out W5 hW5.bl).cell (i := 1) rfl
            go_simp <;> first | done | rfl | (rw [IntKind.wrap_i64]; omega) | omega
          go_simp
          refine wpAnyH_ready (rs := [3]) (by kernel_rfl) (by simp) ?_
          refine AllReadyH.cons rfl (fun K1 hK1 => ?_) AllReadyH.nil
          go_simp
          refine (HA1.out _ SW.bl).mono ?_
          rintro r w7 ⟨rfl, hb5⟩
          refine hK1.out _ _ (SW.mono hb5) (fun SW => ?_)
          clear hK1 K1 hb5
          go_simp
          refine wpAnyH_take (i := 4) (v := .bool true) rfl (by kernel_rfl) (by kernel_rfl) (by kernel_rfl) (fun _ _ _ h => h) (Or.inl ⟨by rfl, ?_⟩) SW ?_
          · intro W5 hW5
            go_simp <;> first | done | rfl | (rw [IntKind.wrap_i64]; omega) | omega
          go_simp
          refine wpAnyH_take (i := 5) (v := .bool true) rfl (by kernel_rfl) (by kernel_rfl) (by kernel_rfl) (fun _ _ _ h => h) (Or.inl ⟨by rfl, ?_⟩) SW ?_
          · intro W5 hW5
            go_simp <;> first | done | rfl | (rw [IntKind.wrap_i64]; omega) | omega
          go_simp
          refine wpAnyH_take (i := 6) (v := .pointer (some ⟨b, 0, none⟩)) rfl (by kernel_rfl) (by kernel_rfl) (by kernel_rfl) (fun _ _ _ h => h) (Or.inl ⟨by rfl, ?_⟩) SW ?_
          · intro W5 hW5
            have x0 := (HP0.out W5 hW5.bl).cell (i := 0) rfl
            go_simp <;> first | done | rfl | (rw [IntKind.wrap_i64]; omega) | omega
          go_simp
          refine wpAnyH_take (i := 7) (v := .agg #[.int .i64 (s : Nat), .int .i64 (kn : Nat), .int .i64 (rn : Nat)]) rfl (by kernel_rfl) (by kernel_rfl) (by kernel_rfl) (fun _ _ _ h => h) (yieldsIf_load_mid (by rfl) 106 _ rfl (w.heap.size + 1) 0 (by rfl) [.int .i64 (s : Nat), .int .i64 (kn : Nat), .int .i64 (rn : Nat)] _ (fun W hW => (HC1.out W hW.bl).range) Tryz.underlying106 rfl (by exact size105)) SW ?_
          go_simp
          refine wpAnyH_ready (rs := [8]) (by kernel_rfl) (by simp) ?_
          refine AllReadyH.cons rfl (fun K1 hK1 => ?_) AllReadyH.nil
          go_simp
          refine (HOV.out _).mono ?_
          rintro r w7 ⟨rfl, hb5⟩
          refine hK1.out _ _ (SW.mono hb5) (fun SW => ?_)
          clear hK1 K1 hb5
          go_simp
          refine wpAnyH_ready (rs := [9]) (by kernel_rfl) (by simp) ?_
          refine AllReadyH.cons rfl (fun K1 hK1 => ?_) AllReadyH.nil
          go_simp
          refine (HA2.out _ SW.bl).mono ?_
          rintro r w7 ⟨rfl, hb5⟩
          refine hK1.out _ _ (SW.mono hb5) (fun SW => ?_)
          clear hK1 K1 hb5
          go_simp
          refine wpAnyH_take (i := 10) (v := .bool true) rfl (by kernel_rfl) (by kernel_rfl) (by kernel_rfl) (fun _ _ _ h => h) (Or.inl ⟨by rfl, ?_⟩) SW ?_
          · intro W5 hW5
            go_simp <;> first | done | rfl | (rw [IntKind.wrap_i64]; omega) | omega
          go_simp
          refine wpAnyH_take (i := 11) (v := .bool true) rfl (by kernel_rfl) (by kernel_rfl) (by kernel_rfl) (fun _ _ _ h => h) (Or.inl ⟨by rfl, ?_⟩) SW ?_
          · intro W5 hW5
            go_simp <;> first | done | rfl | (rw [IntKind.wrap_i64]; omega) | omega
          go_simp
          refine wpAnyH_take (i := 12) (v := .bool true) rfl (by kernel_rfl) (by kernel_rfl) (by kernel_rfl) (fun _ _ _ h => h) (Or.inl ⟨by rfl, ?_⟩) SW ?_
          · intro W5 hW5
            go_simp <;> first | done | rfl | (rw [IntKind.wrap_i64]; omega) | omega
          go_simp
          refine wpAnyH_take (i := 13) (v := .pointer (some ⟨b, 0, none⟩)) rfl (by kernel_rfl) (by kernel_rfl) (by kernel_rfl) (fun _ _ _ h => h) (Or.inl ⟨by rfl, ?_⟩) SW ?_
          · intro W5 hW5
            have x0 := (HP0.out W5 hW5.bl).cell (i := 0) rfl
            go_simp <;> first | done | rfl | (rw [IntKind.wrap_i64]; omega) | omega
          go_simp
          refine wpAnyH_take (i := 14) (v := .agg #[.int .i64 (s : Nat), .int .i64 (kn : Nat), .int .i64 (rn : Nat)]) rfl (by kernel_rfl) (by kernel_rfl) (by kernel_rfl) (fun _ _ _ h => h) (yieldsIf_load_mid (by rfl) 106 _ rfl (w.heap.size + 1) 0 (by rfl) [.int .i64 (s : Nat), .int .i64 (kn : Nat), .int .i64 (rn : Nat)] _ (fun W hW => (HC1.out W hW.bl).range) Tryz.underlying106 rfl (by exact size105)) SW ?_
          go_simp
          refine wpAnyH_ready (rs := [15]) (by kernel_rfl) (by simp) ?_
          refine AllReadyH.cons rfl (fun K1 hK1 => ?_) AllReadyH.nil
          go_simp
          refine (HTO.out _).mono ?_
          rintro r w7 ⟨rfl, hb5⟩
          refine hK1.out _ _ (SW.mono hb5) (fun SW => ?_)
          clear hK1 K1 hb5
          go_simp
          refine wpAnyH_ready (rs := [16]) (by kernel_rfl) (by simp) ?_
          refine AllReadyH.cons rfl (fun K1 hK1 => ?_) AllReadyH.nil
          go_simp
          refine (HA3.out _ SW.bl).mono ?_
          rintro r w7 ⟨rfl, hb5⟩
          refine hK1.out _ _ (SW.mono hb5) (fun SW => ?_)
          clear hK1 K1 hb5
          go_simp
          refine wpAnyH_take (i := 17) (v := .bool true) rfl (by kernel_rfl) (by kernel_rfl) (by kernel_rfl) (fun _ _ _ h => h) (Or.inl ⟨by rfl, ?_⟩) SW ?_
          · intro W5 hW5
            go_simp <;> first | done | rfl | (rw [IntKind.wrap_i64]; omega) | omega
          go_simp
          refine wpAnyH_take (i := 18) (v := .bool true) rfl (by kernel_rfl) (by kernel_rfl) (by kernel_rfl) (fun _ _ _ h => h) (Or.inl ⟨by rfl, ?_⟩) SW ?_
          · intro W5 hW5
            go_simp <;> first | done | rfl | (rw [IntKind.wrap_i64]; omega) | omega
          go_simp
          refine wpAnyH_ready (rs := [19]) (by kernel_rfl) (by simp) ?_
          refine AllReadyH.cons rfl (fun K1 hK1 => ?_) AllReadyH.nil
          obtain ⟨xv, hxv⟩ := SW.v
          have ca := hxv.cell (i := 0) rfl
          have fa := hxv.frozen 0
          have SN := SW.set (by have := HDD.out; omega) true
          go_simp
          refine hK1.out _ _ SN.1 (fun SW => ?_)
          have HSN := hide SN
          clear hK1 K1 ca fa hxv SN
          go_simp
          refine wpAnyH_done (by kernel_rfl) ?_ _
          clear SW
          have HMK : Hid (Mks (fun _ => False) (w.heap.size + 3) _ [{ target := .collected D, args := #[] }]) := hide ⟨[D], rfl, by simp, fun E hE => by rw [List.mem_singleton.1 hE]; exact ⟨HSN.out.1.dd, by have := HDD.out; omega, fun h => h⟩⟩
          go_wp2
          refine leaves_mks HMK.out (fun w9 hk9 => ?_)
          have b1 := HB1.out.trans (HSN.out.1.bl.mono (by omega))
          exact ⟨_, results_b1 rfl _ _ (w.heap.size + 2) rfl ((HSN.out.2.keeps hk9 (fun e => by have := e.1; omega)).cell (i := 0) rfl), rfl, b1.trans (hk9.below b1.size (fun j hj e => by have := e.1; omega))⟩
        · have d3 : decide (atk Z q (1 - t) ≠ []) = true := decide_eq_true h3
          rw [d3] at HA3
          have hRF : RR = false := by rw [← HRR.out, decide_eq_false h3, Bool.and_false]
          subst hRF
          clear d1 d2 d3 h1 h2 h3
          refine wpAnyH_take (i := 0) (v := .pointer (some ⟨b, 0, none⟩)) rfl (by kernel_rfl) (by kernel_rfl) (by kernel_rfl) (fun _ _ _ h => h) (Or.inl ⟨by rfl, ?_⟩) SW ?_
          · intro W5 hW5
            have x0 := (HP0.out W5 hW5.bl).cell (i := 0) rfl
            go_simp <;> first | done | rfl | (rw [IntKind.wrap_i64]; omega) | omega
          go_simp
          refine wpAnyH_take (i := 1) (v := .pointer (some ⟨w.heap.size + 1, 1, none⟩)) rfl (by kernel_rfl) (by kernel_rfl) (by kernel_rfl) (fun _ _ _ h => h) (Or.inl ⟨by rfl, ?_⟩) SW ?_
          · intro W5 hW5
            go_simp <;> first | done | rfl | (rw [IntKind.wrap_i64]; omega) | omega
          go_simp
          refine wpAnyH_take (i := 2) (v := .int .i64 (kn : Nat)) rfl (by kernel_rfl) (by kernel_rfl) (by kernel_rfl) (fun _ _ _ h => h) (Or.inl ⟨by rfl, ?_⟩) SW ?_
          · intro W5 hW5
            have x1 := (HC1.out W5 hW5.bl).cell (i := 1) rfl
            go_simp <;> first | done | rfl | (rw [IntKind.wrap_i64]; omega) | omega
          go_simp
          refine wpAnyH_ready (rs := [3]) (by kernel_rfl) (by simp) ?_
          refine AllReadyH.cons rfl (fun K1 hK1 => ?_) AllReadyH.nil
          go_simp
          refine (HA1.out _ SW.bl).mono ?_
          rintro r w7 ⟨rfl, hb5⟩
          refine hK1.out _ _ (SW.mono hb5) (fun SW => ?_)
          clear hK1 K1 hb5
          go_simp
          refine wpAnyH_take (i := 4) (v := .bool true) rfl (by kernel_rfl) (by kernel_rfl) (by kernel_rfl) (fun _ _ _ h => h) (Or.inl ⟨by rfl, ?_⟩) SW ?_
          · intro W5 hW5
            go_simp <;> first | done | rfl | (rw [IntKind.wrap_i64]; omega) | omega
          go_simp
          refine wpAnyH_take (i := 5) (v := .bool true) rfl (by kernel_rfl) (by kernel_rfl) (by kernel_rfl) (fun _ _ _ h => h) (Or.inl ⟨by rfl, ?_⟩) SW ?_
          · intro W5 hW5
            go_simp <;> first | done | rfl | (rw [IntKind.wrap_i64]; omega) | omega
          go_simp
          refine wpAnyH_take (i := 6) (v := .pointer (some ⟨b, 0, none⟩)) rfl (by kernel_rfl) (by kernel_rfl) (by kernel_rfl) (fun _ _ _ h => h) (Or.inl ⟨by rfl, ?_⟩) SW ?_
          · intro W5 hW5
            have x0 := (HP0.out W5 hW5.bl).cell (i := 0) rfl
            go_simp <;> first | done | rfl | (rw [IntKind.wrap_i64]; omega) | omega
          go_simp
          refine wpAnyH_take (i := 7) (v := .agg #[.int .i64 (s : Nat), .int .i64 (kn : Nat), .int .i64 (rn : Nat)]) rfl (by kernel_rfl) (by kernel_rfl) (by kernel_rfl) (fun _ _ _ h => h) (yieldsIf_load_mid (by rfl) 106 _ rfl (w.heap.size + 1) 0 (by rfl) [.int .i64 (s : Nat), .int .i64 (kn : Nat), .int .i64 (rn : Nat)] _ (fun W hW => (HC1.out W hW.bl).range) Tryz.underlying106 rfl (by exact size105)) SW ?_
          go_simp
          refine wpAnyH_ready (rs := [8]) (by kernel_rfl) (by simp) ?_
          refine AllReadyH.cons rfl (fun K1 hK1 => ?_) AllReadyH.nil
          go_simp
          refine (HOV.out _).mono ?_
          rintro r w7 ⟨rfl, hb5⟩
          refine hK1.out _ _ (SW.mono hb5) (fun SW => ?_)
          clear hK1 K1 hb5
          go_simp
          refine wpAnyH_ready (rs := [9]) (by kernel_rfl) (by simp) ?_
          refine AllReadyH.cons rfl (fun K1 hK1 => ?_) AllReadyH.nil
          go_simp
          refine (HA2.out _ SW.bl).mono ?_
          rintro r w7 ⟨rfl, hb5⟩
          refine hK1.out _ _ (SW.mono hb5) (fun SW => ?_)
          clear hK1 K1 hb5
          go_simp
          refine wpAnyH_take (i := 10) (v := .bool true) rfl (by kernel_rfl) (by kernel_rfl) (by kernel_rfl) (fun _ _ _ h => h) (Or.inl ⟨by rfl, ?_⟩) SW ?_
          · intro W5 hW5
            go_simp <;> first | done | rfl | (rw [IntKind.wrap_i64]; omega) | omega
          go_simp
          refine wpAnyH_take (i := 11) (v := .bool true) rfl (by kernel_rfl) (by kernel_rfl) (by kernel_rfl) (fun _ _ _ h => h) (Or.inl ⟨by rfl, ?_⟩) SW ?_
          · intro W5 hW5
            go_simp <;> first | done | rfl | (rw [IntKind.wrap_i64]; omega) | omega
          go_simp
          refine wpAnyH_take (i := 12) (v := .bool true) rfl (by kernel_rfl) (by kernel_rfl) (by kernel_rfl) (fun _ _ _ h => h) (Or.inl ⟨by rfl, ?_⟩) SW ?_
          · intro W5 hW5
            go_simp <;> first | done | rfl | (rw [IntKind.wrap_i64]; omega) | omega
          go_simp
          refine wpAnyH_take (i := 13) (v := .pointer (some ⟨b, 0, none⟩)) rfl (by kernel_rfl) (by kernel_rfl) (by kernel_rfl) (fun _ _ _ h => h) (Or.inl ⟨by rfl, ?_⟩) SW ?_
          · intro W5 hW5
            have x0 := (HP0.out W5 hW5.bl).cell (i := 0) rfl
            go_simp <;> first | done | rfl | (rw [IntKind.wrap_i64]; omega) | omega
          go_simp
          refine wpAnyH_take (i := 14) (v := .agg #[.int .i64 (s : Nat), .int .i64 (kn : Nat), .int .i64 (rn : Nat)]) rfl (by kernel_rfl) (by kernel_rfl) (by kernel_rfl) (fun _ _ _ h => h) (yieldsIf_load_mid (by rfl) 106 _ rfl (w.heap.size + 1) 0 (by rfl) [.int .i64 (s : Nat), .int .i64 (kn : Nat), .int .i64 (rn : Nat)] _ (fun W hW => (HC1.out W hW.bl).range) Tryz.underlying106 rfl (by exact size105)) SW ?_
          go_simp
          refine wpAnyH_ready (rs := [15]) (by kernel_rfl) (by simp) ?_
          refine AllReadyH.cons rfl (fun K1 hK1 => ?_) AllReadyH.nil
          go_simp
          refine (HTO.out _).mono ?_
          rintro r w7 ⟨rfl, hb5⟩
          refine hK1.out _ _ (SW.mono hb5) (fun SW => ?_)
          clear hK1 K1 hb5
          go_simp
          refine wpAnyH_ready (rs := [16]) (by kernel_rfl) (by simp) ?_
          refine AllReadyH.cons rfl (fun K1 hK1 => ?_) AllReadyH.nil
          go_simp
          refine (HA3.out _ SW.bl).mono ?_
          rintro r w7 ⟨rfl, hb5⟩
          refine hK1.out _ _ (SW.mono hb5) (fun SW => ?_)
          clear hK1 K1 hb5
          go_simp
          refine wpAnyH_take (i := 17) (v := .bool false) rfl (by kernel_rfl) (by kernel_rfl) (by kernel_rfl) (fun _ _ _ h => h) (Or.inl ⟨by rfl, ?_⟩) SW ?_
          · intro W5 hW5
            go_simp <;> first | done | rfl | (rw [IntKind.wrap_i64]; omega) | omega
          go_simp
          refine wpAnyH_take (i := 18) (v := .bool false) rfl (by kernel_rfl) (by kernel_rfl) (by kernel_rfl) (fun _ _ _ h => h) (Or.inl ⟨by rfl, ?_⟩) SW ?_
          · intro W5 hW5
            go_simp <;> first | done | rfl | (rw [IntKind.wrap_i64]; omega) | omega
          go_simp
          refine wpAnyH_ready (rs := [19]) (by kernel_rfl) (by simp) ?_
          refine AllReadyH.cons rfl (fun K1 hK1 => ?_) AllReadyH.nil
          obtain ⟨xv, hxv⟩ := SW.v
          have ca := hxv.cell (i := 0) rfl
          have fa := hxv.frozen 0
          have SN := SW.set (by have := HDD.out; omega) false
          go_simp
          refine hK1.out _ _ SN.1 (fun SW => ?_)
          have HSN := hide SN
          clear hK1 K1 ca fa hxv SN
          go_simp
          refine wpAnyH_done (by kernel_rfl) ?_ _
          clear SW
          have HMK : Hid (Mks (fun _ => False) (w.heap.size + 3) _ [{ target := .collected D, args := #[] }]) := hide ⟨[D], rfl, by simp, fun E hE => by rw [List.mem_singleton.1 hE]; exact ⟨HSN.out.1.dd, by have := HDD.out; omega, fun h => h⟩⟩
          go_wp2
          refine leaves_mks HMK.out (fun w9 hk9 => ?_)
          have b1 := HB1.out.trans (HSN.out.1.bl.mono (by omega))
          exact ⟨_, results_b1 rfl _ _ (w.heap.size + 2) rfl ((HSN.out.2.keeps hk9 (fun e => by have := e.1; omega)).cell (i := 0) rfl), rfl, b1.trans (hk9.below b1.size (fun j hj e => by have := e.1; omega))⟩
      · have d2 : decide (atk Z o (1 - t) ≠ []) = true := decide_eq_true h2
        rw [d2] at HA2
        have hRF : RR = false := by rw [← HRR.out, decide_eq_false h2, Bool.and_false, Bool.false_and]
        subst hRF
        clear d1 d2 h1 h2
        refine wpAnyH_take (i := 0) (v := .pointer (some ⟨b, 0, none⟩)) rfl (by kernel_rfl) (by kernel_rfl) (by kernel_rfl) (fun _ _ _ h => h) (Or.inl ⟨by rfl, ?_⟩) SW ?_
        · intro W5 hW5
          have x0 := (HP0.out W5 hW5.bl).cell (i := 0) rfl
          go_simp <;> first | done | rfl | (rw [IntKind.wrap_i64]; omega) | omega
        go_simp
        refine wpAnyH_take (i := 1) (v := .pointer (some ⟨w.heap.size + 1, 1, none⟩)) rfl (by kernel_rfl) (by kernel_rfl) (by kernel_rfl) (fun _ _ _ h => h) (Or.inl ⟨by rfl, ?_⟩) SW ?_
        · intro W5 hW5
          go_simp <;> first | done | rfl | (rw [IntKind.wrap_i64]; omega) | omega
        go_simp
        refine wpAnyH_take (i := 2) (v := .int .i64 (kn : Nat)) rfl (by kernel_rfl) (by kernel_rfl) (by kernel_rfl) (fun _ _ _ h => h) (Or.inl ⟨by rfl, ?_⟩) SW ?_
        · intro W5 hW5
          have x1 := (HC1.out W5 hW5.bl).cell (i := 1) rfl
          go_simp <;> first | done | rfl | (rw [IntKind.wrap_i64]; omega) | omega
        go_simp
        refine wpAnyH_ready (rs := [3]) (by kernel_rfl) (by simp) ?_
        refine AllReadyH.cons rfl (fun K1 hK1 => ?_) AllReadyH.nil
        go_simp
        refine (HA1.out _ SW.bl).mono ?_
        rintro r w7 ⟨rfl, hb5⟩
        refine hK1.out _ _ (SW.mono hb5) (fun SW => ?_)
        clear hK1 K1 hb5
        go_simp
        refine wpAnyH_take (i := 4) (v := .bool true) rfl (by kernel_rfl) (by kernel_rfl) (by kernel_rfl) (fun _ _ _ h => h) (Or.inl ⟨by rfl, ?_⟩) SW ?_
        · intro W5 hW5
          go_simp <;> first | done | rfl | (rw [IntKind.wrap_i64]; omega) | omega
        go_simp
        refine wpAnyH_take (i := 5) (v := .bool true) rfl (by kernel_rfl) (by kernel_rfl) (by kernel_rfl) (fun _ _ _ h => h) (Or.inl ⟨by rfl, ?_⟩) SW ?_
        · intro W5 hW5
          go_simp <;> first | done | rfl | (rw [IntKind.wrap_i64]; omega) | omega
        go_simp
        refine wpAnyH_take (i := 6) (v := .pointer (some ⟨b, 0, none⟩)) rfl (by kernel_rfl) (by kernel_rfl) (by kernel_rfl) (fun _ _ _ h => h) (Or.inl ⟨by rfl, ?_⟩) SW ?_
        · intro W5 hW5
          have x0 := (HP0.out W5 hW5.bl).cell (i := 0) rfl
          go_simp <;> first | done | rfl | (rw [IntKind.wrap_i64]; omega) | omega
        go_simp
        refine wpAnyH_take (i := 7) (v := .agg #[.int .i64 (s : Nat), .int .i64 (kn : Nat), .int .i64 (rn : Nat)]) rfl (by kernel_rfl) (by kernel_rfl) (by kernel_rfl) (fun _ _ _ h => h) (yieldsIf_load_mid (by rfl) 106 _ rfl (w.heap.size + 1) 0 (by rfl) [.int .i64 (s : Nat), .int .i64 (kn : Nat), .int .i64 (rn : Nat)] _ (fun W hW => (HC1.out W hW.bl).range) Tryz.underlying106 rfl (by exact size105)) SW ?_
        go_simp
        refine wpAnyH_ready (rs := [8]) (by kernel_rfl) (by simp) ?_
        refine AllReadyH.cons rfl (fun K1 hK1 => ?_) AllReadyH.nil
        go_simp
        refine (HOV.out _).mono ?_
        rintro r w7 ⟨rfl, hb5⟩
        refine hK1.out _ _ (SW.mono hb5) (fun SW => ?_)
        clear hK1 K1 hb5
        go_simp
        refine wpAnyH_ready (rs := [9]) (by kernel_rfl) (by simp) ?_
        refine AllReadyH.cons rfl (fun K1 hK1 => ?_) AllReadyH.nil
        go_simp
        refine (HA2.out _ SW.bl).mono ?_
        rintro r w7 ⟨rfl, hb5⟩
        refine hK1.out _ _ (SW.mono hb5) (fun SW => ?_)
        clear hK1 K1 hb5
        go_simp
        refine wpAnyH_take (i := 10) (v := .bool false) rfl (by kernel_rfl) (by kernel_rfl) (by kernel_rfl) (fun _ _ _ h => h) (Or.inl ⟨by rfl, ?_⟩) SW ?_
        · intro W5 hW5
          go_simp <;> first | done | rfl | (rw [IntKind.wrap_i64]; omega) | omega
        go_simp
        refine wpAnyH_take (i := 11) (v := .bool false) rfl (by kernel_rfl) (by kernel_rfl) (by kernel_rfl) (fun _ _ _ h => h) (Or.inl ⟨by rfl, ?_⟩) SW ?_
        · intro W5 hW5
          go_simp <;> first | done | rfl | (rw [IntKind.wrap_i64]; omega) | omega
        go_simp
        refine wpAnyH_take (i := 12) (v := .bool false) rfl (by kernel_rfl) (by kernel_rfl) (by kernel_rfl) (fun _ _ _ h => h) (Or.inl ⟨by rfl, ?_⟩) SW ?_
        · intro W5 hW5
          go_simp <;> first | done | rfl | (rw [IntKind.wrap_i64]; omega) | omega
        go_simp
        refine wpAnyH_take (i := 13) (v := undef) rfl (by kernel_rfl) (by kernel_rfl) (by kernel_rfl) (fun _ _ _ h => h) (Or.inr ⟨by rfl, rfl⟩) SW ?_
        go_simp
        refine wpAnyH_take (i := 14) (v := undef) rfl (by kernel_rfl) (by kernel_rfl) (by kernel_rfl) (fun _ _ _ h => h) (Or.inr ⟨by rfl, rfl⟩) SW ?_
        go_simp
        refine wpAnyH_take (i := 15) (v := undef) rfl (by kernel_rfl) (by kernel_rfl) (by kernel_rfl) (fun _ _ _ h => h) (Or.inr ⟨by rfl, rfl⟩) SW ?_
        go_simp
        refine wpAnyH_take (i := 16) (v := undef) rfl (by kernel_rfl) (by kernel_rfl) (by kernel_rfl) (fun _ _ _ h => h) (Or.inr ⟨by rfl, rfl⟩) SW ?_
        go_simp
        refine wpAnyH_take (i := 17) (v := undef) rfl (by kernel_rfl) (by kernel_rfl) (by kernel_rfl) (fun _ _ _ h => h) (Or.inr ⟨by rfl, rfl⟩) SW ?_
        go_simp
        refine wpAnyH_take (i := 18) (v := .bool false) rfl (by kernel_rfl) (by kernel_rfl) (by kernel_rfl) (fun _ _ _ h => h) (Or.inl ⟨by rfl, ?_⟩) SW ?_
        · intro W5 hW5
          go_simp <;> first | done | rfl | (rw [IntKind.wrap_i64]; omega) | omega
        go_simp
        refine wpAnyH_ready (rs := [19]) (by kernel_rfl) (by simp) ?_
        refine AllReadyH.cons rfl (fun K1 hK1 => ?_) AllReadyH.nil
        obtain ⟨xv, hxv⟩ := SW.v
        have ca := hxv.cell (i := 0) rfl
        have fa := hxv.frozen 0
        have SN := SW.set (by have := HDD.out; omega) false
        go_simp
        refine hK1.out _ _ SN.1 (fun SW => ?_)
        have HSN := hide SN
        clear hK1 K1 ca fa hxv SN
        go_simp
        refine wpAnyH_done (by kernel_rfl) ?_ _
        clear SW
        have HMK : Hid (Mks (fun _ => False) (w.heap.size + 3) _ [{ target := .collected D, args := #[] }]) := hide ⟨[D], rfl, by simp, fun E hE => by rw [List.mem_singleton.1 hE]; exact ⟨HSN.out.1.dd, by have := HDD.out; omega, fun h => h⟩⟩
        go_wp2
        refine leaves_mks HMK.out (fun w9 hk9 => ?_)
        have b1 := HB1.out.trans (HSN.out.1.bl.mono (by omega))
        exact ⟨_, results_b1 rfl _ _ (w.heap.size + 2) rfl ((HSN.out.2.keeps hk9 (fun e => by have := e.1; omega)).cell (i := 0) rfl), rfl, b1.trans (hk9.below b1.size (fun j hj e => by have := e.1; omega))⟩
    · have d1 : decide (atk Z kn (1 - t) ≠ []) = true := decide_eq_true h1
      rw [d1] at HA1
      have hRF : RR = false := by rw [← HRR.out, decide_eq_false h1, Bool.false_and, Bool.false_and]
      subst hRF
      clear d1 h1
      refine wpAnyH_take (i := 0) (v := .pointer (some ⟨b, 0, none⟩)) rfl (by kernel_rfl) (by kernel_rfl) (by kernel_rfl) (fun _ _ _ h => h) (Or.inl ⟨by rfl, ?_⟩) SW ?_
      · intro W5 hW5
        have x0 := (HP0.out W5 hW5.bl).cell (i := 0) rfl
        go_simp <;> first | done | rfl | (rw [IntKind.wrap_i64]; omega) | omega
      go_simp
      refine wpAnyH_take (i := 1) (v := .pointer (some ⟨w.heap.size + 1, 1, none⟩)) rfl (by kernel_rfl) (by kernel_rfl) (by kernel_rfl) (fun _ _ _ h => h) (Or.inl ⟨by rfl, ?_⟩) SW ?_
      · intro W5 hW5
        go_simp <;> first | done | rfl | (rw [IntKind.wrap_i64]; omega) | omega
      go_simp
      refine wpAnyH_take (i := 2) (v := .int .i64 (kn : Nat)) rfl (by kernel_rfl) (by kernel_rfl) (by kernel_rfl) (fun _ _ _ h => h) (Or.inl ⟨by rfl, ?_⟩) SW ?_
      · intro W5 hW5
        have x1 := (HC1.out W5 hW5.bl).cell (i := 1) rfl
        go_simp <;> first | done | rfl | (rw [IntKind.wrap_i64]; omega) | omega
      go_simp
      refine wpAnyH_ready (rs := [3]) (by kernel_rfl) (by simp) ?_
      refine AllReadyH.cons rfl (fun K1 hK1 => ?_) AllReadyH.nil
      go_simp
      refine (HA1.out _ SW.bl).mono ?_
      rintro r w7 ⟨rfl, hb5⟩
      refine hK1.out _ _ (SW.mono hb5) (fun SW => ?_)
      clear hK1 K1 hb5
      go_simp
      refine wpAnyH_take (i := 4) (v := .bool false) rfl (by kernel_rfl) (by kernel_rfl) (by kernel_rfl) (fun _ _ _ h => h) (Or.inl ⟨by rfl, ?_⟩) SW ?_
      · intro W5 hW5
        go_simp <;> first | done | rfl | (rw [IntKind.wrap_i64]; omega) | omega
      go_simp
      refine wpAnyH_take (i := 5) (v := .bool false) rfl (by kernel_rfl) (by kernel_rfl) (by kernel_rfl) (fun _ _ _ h => h) (Or.inl ⟨by rfl, ?_⟩) SW ?_
      · intro W5 hW5
        go_simp <;> first | done | rfl | (rw [IntKind.wrap_i64]; omega) | omega
      go_simp
      refine wpAnyH_take (i := 6) (v := undef) rfl (by kernel_rfl) (by kernel_rfl) (by kernel_rfl) (fun _ _ _ h => h) (Or.inr ⟨by rfl, rfl⟩) SW ?_
      go_simp
      refine wpAnyH_take (i := 7) (v := undef) rfl (by kernel_rfl) (by kernel_rfl) (by kernel_rfl) (fun _ _ _ h => h) (Or.inr ⟨by rfl, rfl⟩) SW ?_
      go_simp
      refine wpAnyH_take (i := 8) (v := undef) rfl (by kernel_rfl) (by kernel_rfl) (by kernel_rfl) (fun _ _ _ h => h) (Or.inr ⟨by rfl, rfl⟩) SW ?_
      go_simp
      refine wpAnyH_take (i := 9) (v := undef) rfl (by kernel_rfl) (by kernel_rfl) (by kernel_rfl) (fun _ _ _ h => h) (Or.inr ⟨by rfl, rfl⟩) SW ?_
      go_simp
      refine wpAnyH_take (i := 10) (v := undef) rfl (by kernel_rfl) (by kernel_rfl) (by kernel_rfl) (fun _ _ _ h => h) (Or.inr ⟨by rfl, rfl⟩) SW ?_
      go_simp
      refine wpAnyH_take (i := 11) (v := .bool false) rfl (by kernel_rfl) (by kernel_rfl) (by kernel_rfl) (fun _ _ _ h => h) (Or.inl ⟨by rfl, ?_⟩) SW ?_
      · intro W5 hW5
        go_simp <;> first | done | rfl | (rw [IntKind.wrap_i64]; omega) | omega
      go_simp
      refine wpAnyH_take (i := 12) (v := .bool false) rfl (by kernel_rfl) (by kernel_rfl) (by kernel_rfl) (fun _ _ _ h => h) (Or.inl ⟨by rfl, ?_⟩) SW ?_
      · intro W5 hW5
        go_simp <;> first | done | rfl | (rw [IntKind.wrap_i64]; omega) | omega
      go_simp
      refine wpAnyH_take (i := 13) (v := undef) rfl (by kernel_rfl) (by kernel_rfl) (by kernel_rfl) (fun _ _ _ h => h) (Or.inr ⟨by rfl, rfl⟩) SW ?_
      go_simp
      refine wpAnyH_take (i := 14) (v := undef) rfl (by kernel_rfl) (by kernel_rfl) (by kernel_rfl) (fun _ _ _ h => h) (Or.inr ⟨by rfl, rfl⟩) SW ?_
      go_simp
      refine wpAnyH_take (i := 15) (v := undef) rfl (by kernel_rfl) (by kernel_rfl) (by kernel_rfl) (fun _ _ _ h => h) (Or.inr ⟨by rfl, rfl⟩) SW ?_
      go_simp
      refine wpAnyH_take (i := 16) (v := undef) rfl (by kernel_rfl) (by kernel_rfl) (by kernel_rfl) (fun _ _ _ h => h) (Or.inr ⟨by rfl, rfl⟩) SW ?_
      go_simp
      refine wpAnyH_take (i := 17) (v := undef) rfl (by kernel_rfl) (by kernel_rfl) (by kernel_rfl) (fun _ _ _ h => h) (Or.inr ⟨by rfl, rfl⟩) SW ?_
      go_simp
      refine wpAnyH_take (i := 18) (v := .bool false) rfl (by kernel_rfl) (by kernel_rfl) (by kernel_rfl) (fun _ _ _ h => h) (Or.inl ⟨by rfl, ?_⟩) SW ?_
      · intro W5 hW5
        go_simp <;> first | done | rfl | (rw [IntKind.wrap_i64]; omega) | omega
      go_simp
      refine wpAnyH_ready (rs := [19]) (by kernel_rfl) (by simp) ?_
      refine AllReadyH.cons rfl (fun K1 hK1 => ?_) AllReadyH.nil
      obtain ⟨xv, hxv⟩ := SW.v
      have ca := hxv.cell (i := 0) rfl
      have fa := hxv.frozen 0
      have SN := SW.set (by have := HDD.out; omega) false
      go_simp
      refine hK1.out _ _ SN.1 (fun SW => ?_)
      have HSN := hide SN
      clear hK1 K1 ca fa hxv SN
      go_simp
      refine wpAnyH_done (by kernel_rfl) ?_ _
      clear SW
      have HMK : Hid (Mks (fun _ => False) (w.heap.size + 3) _ [{ target := .collected D, args := #[] }]) := hide ⟨[D], rfl, by simp, fun E hE => by rw [List.mem_singleton.1 hE]; exact ⟨HSN.out.1.dd, by have := HDD.out; omega, fun h => h⟩⟩
      go_wp2
      refine leaves_mks HMK.out (fun w9 hk9 => ?_)
      have b1 := HB1.out.trans (HSN.out.1.bl.mono (by omega))
      exact ⟨_, results_b1 rfl _ _ (w.heap.size + 2) rfl ((HSN.out.2.keeps hk9 (fun e => by have := e.1; omega)).cell (i := 0) rfl), rfl, b1.trans (hk9.below b1.size (fun j hj e => by have := e.1; omega))⟩
  case stop =>
    rintro d D O W6 hD ⟨rfl, h1, h2, h3, h4⟩ hk6 hm6 hKD
    have z2 := HS2.out
    have hRF : RR = false := by rw [← HRR.out, h3]; rfl
    subst hRF
    have HV9 := hide h2
    have HB9 := hide h4
    have HMK : Hid (Mks (fun _ => False) (w.heap.size + 3) W6 [{ target := .collected D, args := #[] }]) := hide ⟨[D], rfl, by simp, fun E hE => by rw [List.mem_singleton.1 hE]; exact ⟨hKD, by omega, fun h => h⟩⟩
    clear hk6 hm6 hKD hD z2 h1 h2 h3 h4
    refine wpIn_wide.2 ?_
    go_wp2
    refine leaves_mks HMK.out (fun w9 hk9 => ?_)
    have b1 := HB1.out.trans (HB9.out.mono (by omega))
    exact ⟨_, results_b1 rfl _ _ (w.heap.size + 2) rfl ((HV9.out.keeps hk9 (fun e => by have := e.1; omega)).cell (i := 0) rfl), rfl, b1.trans (hk9.below b1.size (fun j hj e => by have := e.1; omega))⟩

end Go.Proofs.YtdmlamnonbmboaaGreatDoor
