/-
  Chess: where a piece may go to, as a set: walked. No conditions beyond those that each theorem bears.
-/
import Derived.Test.YtdmlamnonbmboaaGreatDoorV25
import Derived.Test.YtdmlamnonbmboaaGreatDoorV26
namespace Go.Proofs.YtdmlamnonbmboaaGreatDoor
open Go.RowKit Go.Shelf

theorem wp_calm2 {P : Program} {c : Code} {Q : Exit → Act → World → Prop} {a : Act} {w : World} (h : c.wp P (Exit.then (fun a w => Q .normal a w) (fun _ _ _ => False)) a w) : c.wp P Q a w := wp_mono h (fun e _ _ h => by cases e <;> first | exact h | exact h.elim)

theorem msk_or (p q : Nat → Bool) : msk p 64 ||| msk q 64 = msk (fun j => p j || q j) 64 := msk_ext (Nat.or_lt_two_pow (msk_lt p 64 (by omega)) (msk_lt q 64 (by omega))) (fun j hj => by rw [Nat.testBit_or, msk_bit, msk_bit, decide_eq_true hj]; simp)
theorem msk_put (p : Nat → Bool) {y : Nat} (hy : y < 64) : msk p 64 ||| 2 ^ y = msk (fun j => p j || j == y) 64 := msk_ext (Nat.or_lt_two_pow (msk_lt p 64 (by omega)) (Nat.pow_lt_pow_right (by omega) hy)) (fun j hj => by
  rw [Nat.testBit_or, msk_bit, Nat.testBit_two_pow, decide_eq_true hj]
  by_cases e : y = j
  · subst e; simp
  · simp [e, Ne.symm e])
theorem msk_congr {p q : Nat → Bool} (h : ∀ j, j < 64 → p j = q j) : msk p 64 = msk q 64 := msk_ext (msk_lt p 64 (by omega)) (fun j hj => by rw [msk_bit, decide_eq_true hj, h j hj]; rfl)

/-- The places come to so far. -/
def tgS (Z : List Int) (t : Nat) (e : Int) (x : Nat) (s : List Nat) (q : Nat) : Bool := decide (q ∈ s) && entB Z t e x q
theorem tgS_nil (Z : List Int) (t : Nat) (e : Int) (x : Nat) : msk (tgS Z t e x []) 64 = 0 := (msk_ext (by decide) (fun j _ => by unfold tgS; simp)).symm
theorem tgS_no {Z : List Int} {t : Nat} {e : Int} {x : Nat} {s : List Nat} {y : Nat} (h : entB Z t e x y = false) : msk (tgS Z t e x (s ++ [y])) 64 = msk (tgS Z t e x s) 64 := msk_congr (fun j _ => by
  unfold tgS
  by_cases ey : j = y
  · subst ey; rw [h]; simp
  · simp [ey])
theorem tgS_yes {Z : List Int} {t : Nat} {e : Int} {x : Nat} {s : List Nat} {y : Nat} (hy : y < 64) (h : entB Z t e x y = true) : msk (tgS Z t e x (s ++ [y])) 64 = msk (tgS Z t e x s) 64 ||| 2 ^ y := by
  rw [msk_put _ hy]
  refine msk_congr (fun j _ => ?_)
  unfold tgS
  by_cases ey : j = y
  · subst ey; rw [h]; simp
  · simp [ey]

/-- What is held while targets are looked for: g: the set's place. -/
structure TgI (g : Nat) (w : World) (p : List Nat → Nat → Bool) (O : Nat → Prop) (s : List Nat) (V : World) : Prop where
  o : ∀ j, O j ↔ j = g
  a : Vb V g 87 [.int .u64 (msk (p s) 64 : Nat)]
  bl : Below g w V

attribute [local irreducible] msk rch entB tgS
attribute [local go_sem] Oper.semAt_some wide_fn wide_fn0 wide_depth

set_option maxRecDepth 100000 in
set_option maxHeartbeats 8000000 in
theorem targets_any (b : Nat) (Z : List Int) (t kn : Nat) (e h f : Int) (ht : t ≤ 1) (hz : Pz Z) (hkn : kn ≤ 15) (x : Nat) (hx : x < 64) (hX : KX (zg Z x)) (hpw : (zg Z x).natAbs = 1 → 8 ≤ x ∧ x < 56) (w : World) (hs : Sb w b Z (t : Nat) (kn : Nat) e h f) (hT : TabS w) :
    Calls Tryz.prog 92 #[.pointer (some ⟨b, 0, none⟩), .int .i64 (x : Nat)] w fun r w' => r = .returned (.int .u64 (msk (tgB Z t kn e x) 64 : Nat)) ∧ Below w.heap.size w w' := by
  obtain ⟨w1, hw1⟩ : ∃ w1, (w.alloc (.cells #[.pointer (some ⟨b, 0, none⟩)] 80)).alloc (.cells #[.int .i64 (x : Nat)] 3) = w1 := ⟨_, rfl⟩
  have s1 : w1.heap.size = w.heap.size + 2 := by rw [← hw1]; simp
  have B1 : Below w.heap.size w w1 := by rw [← hw1]; exact ((Below.refl _ w).alloc (Nat.le_refl _) _).alloc (by simp) _
  have V0 : Vb w1 w.heap.size 80 [.pointer (some ⟨b, 0, none⟩)] := by rw [← hw1]; exact (Vb.new w 80 _).old _
  have V1 : Vb w1 (w.heap.size + 1) 3 [.int .i64 (x : Nat)] := by
    rw [← hw1]
    have := Vb.new (w.alloc (.cells #[.pointer (some ⟨b, 0, none⟩)] 80)) 3 [.int .i64 (x : Nat)]
    rw [World.size_alloc] at this
    exact this
  obtain ⟨w2, hw2⟩ : ∃ w2, w1.alloc (.cells #[.int .u64 0] 87) = w2 := ⟨_, rfl⟩
  have s2 : w2.heap.size = w.heap.size + 3 := by rw [← hw2]; simp [s1]
  have B12 : Below w1.heap.size w1 w2 := by rw [← hw2]; exact (Below.refl _ w1).alloc (Nat.le_refl _) _
  have V2 : Vb w2 (w.heap.size + 2) 87 [.int .u64 0] := by
    rw [← hw2]
    have := Vb.new w1 87 [.int .u64 0]
    rw [s1] at this
    exact this
  have B2 : Below w.heap.size w w2 := B1.trans (B12.mono B1.size)
  have S2 := hs.mono B2
  have hbl := hs.lt
  have hT2 := hT.mono B2
  have h1w := hT.lt
  have HSB : Hid (∀ W, Below (w.heap.size + 2) w2 W → Sb W b Z (t : Nat) (kn : Nat) e h f ∧ TabS W) := hide (fun W hb => ⟨S2.below hb (by omega), fun i hi => (hb.cell (p := ⟨1, i, none⟩) (by show 1 < _; omega)).trans (hT2 i hi)⟩)
  have V0' := V0.mono B12
  have V1' := V1.mono B12
  have HP0 : Hid (∀ W, Below (w.heap.size + 2) w2 W → Vb W w.heap.size 80 [.pointer (some ⟨b, 0, none⟩)]) := hide (fun W hb => V0'.below hb (by omega))
  have HP1 : Hid (∀ W, Below (w.heap.size + 2) w2 W → Vb W (w.heap.size + 1) 3 [.int .i64 (x : Nat)]) := hide (fun W hb => V1'.below hb (by omega))
  have HEN : Hid (∀ W, Below (w.heap.size + 2) w2 W → ∀ q, q < 64 → Calls Tryz.prog 115 #[.pointer (some ⟨b, 0, none⟩), .int .i64 (x : Nat), .int .i64 (q : Nat)] W fun r w' => r = .returned (.bool (entB Z t e x q)) ∧ w' = W) := hide (fun W hb q hq => mayEnter_any b Z t kn e h f ht hz x q hx hq W (HSB.out W hb).1)
  have HKO : Hid (∀ W, Below (w.heap.size + 2) w2 W → Calls Tryz.prog 52 #[.pointer (some ⟨b, 0, none⟩), .int .i64 (x : Nat)] W fun r w' => r = .returned (.int .i64 ((zg Z x).natAbs : Nat)) ∧ w' = W) := hide (fun W hb => kindOn_any b Z t kn e h f hz x hx W (HSB.out W hb).1)
  have HAH : Hid ((zg Z x).natAbs = 1 → ∀ W, Below (w.heap.size + 2) w2 W → Calls Tryz.prog 116 #[.pointer (some ⟨b, 0, none⟩), .int .i64 (x : Nat)] W fun r w' => r = .returned (.int .u64 (msk (ahB Z t x) 64 : Nat)) ∧ w' = W) := hide (fun hp W hb => ahead_any b Z t kn e h f x (hpw hp).1 (hpw hp).2 W (HSB.out W hb).1)
  have HCA : Hid (∀ W, Below (w.heap.size + 2) w2 W → Calls Tryz.prog 117 #[.pointer (some ⟨b, 0, none⟩)] W fun r w' => r = .returned (.int .u64 (msk (casB Z t kn) 64 : Nat)) ∧ Below W.heap.size W w') := hide (fun W hb => castles_any b Z t kn e h f ht hkn W (HSB.out W hb).1 (HSB.out W hb).2)
  have HSQ := hide (fun xb fb eb => reachM_seq xb fb eb b (zg Z x) x Z (t : Nat) (kn : Nat) e h f hX hx)
  have HLT := hide (rch_lt (Z := Z) hX hx)
  have HRN := hide (fun W (h1 : Sb W b Z (t : Nat) (kn : Nat) e h f) (h2 : TabS W) => RmR.new (zg Z x) x h1 h2)
  have HJA := hide just_any
  obtain ⟨MM, hMM⟩ : ∃ MM, msk (tgB Z t kn e x) 64 = MM := ⟨_, rfl⟩
  have HMM : Hid (MM = msk (fun q => tgS Z t e x (rch Z (zg Z x) x) q || (((zg Z x).natAbs == 1 && ahB Z t x q) || ((zg Z x).natAbs == 6 && casB Z t kn q))) 64) := hide (by
    rw [← hMM]
    refine msk_congr (fun q _ => ?_)
    unfold tgB tgS
    rw [Bool.or_assoc])
  have HMS := hide (fun s => msk_lt' (tgS Z t e x s) 64 (by omega))
  have HMA := hide (msk_lt' (ahB Z t x) 64 (by omega))
  have HMC := hide (msk_lt' (casB Z t kn) 64 (by omega))
  have HCZ : Hid (w2.cell? ⟨b, x, none⟩ = some (.int .i64 (zg Z x))) := hide (S2.at hx)
  have HSZ : Hid (∀ W, Below (w.heap.size + 2) w2 W → W.cell? ⟨b, x, none⟩ = some (.int .i64 (zg Z x))) := hide (fun W hb => (HSB.out W hb).1.at hx)
  have HI2 : Hid (Vb w2 (w.heap.size + 2) 87 [.int .u64 (msk (tgS Z t e x []) 64 : Nat)]) := hide (by rw [tgS_nil]; exact V2)
  have HB2 := hide B2
  have HWW : Hid (w2.heap.size = w.heap.size + 3 ∧ 1 < w.heap.size ∧ b < w.heap.size) := hide ⟨s2, h1w, hbl⟩
  rw [hMM]
  have hx' : (x : Int) < 64 := by omega
  obtain ⟨zx, hzx⟩ : ∃ zx, zg Z x = zx := ⟨_, rfl⟩
  rw [hzx] at HKO HAH HSQ HLT HRN HMM HCZ HSZ
  have HS1 : Hid (w1.heap.size = w.heap.size + 2) := hide s1
  clear s1 s2 B1 B12 V0 V1 V2 B2 S2 hs hT hT2 hbl h1w V0' V1' hX hpw hz hMM hzx
  refine (callsIn_wide (n := 3)).1 ?_
  refine callsIn_of_wp_marks Tryz.func92 rfl trivial ?_ rfl
  simp only [Tryz.ntmps92, List.size_toArray, List.length_cons, List.length_nil, Nat.reduceAdd, Nat.reduceSub, Array.replicate_succ, Array.replicate_zero, List.push_toArray, List.append_toArray, List.nil_append, List.cons_append]
  refine wpIn_wide.2 ?_
  go_upto_region 1 with fail
  clear hw1
  go_upto_region 2 with fail
  rw [HS1.out]
  clear hw2
  refine wp_calm ?_
  refine wp_region_held (S := fun W5 => Below (w.heap.size + 2) w2 W5) (by kernel_rfl) ?_
  change wpAnyH _ _ _ _ _ _ _ _ (World.drew _)
  have SW : Below (w.heap.size + 2) w2 w2.drew := (Below.refl _ _).drew
  refine wpAnyH_take (i := 0) (v := .pointer (some ⟨b, 0, none⟩)) rfl (by kernel_rfl) (by kernel_rfl) (by kernel_rfl) (fun _ _ _ h => h) (Or.inl ⟨by rfl, ?_⟩) SW ?_
  · intro W5 hW5
    have y0 := (HP0.out W5 hW5).cell (i := 0) rfl
    go_simp <;> first | done | rfl | (rw [IntKind.wrap_i64]; omega) | omega
  go_simp
  refine wpAnyH_take (i := 1) (v := .int .i64 (x : Nat)) rfl (by kernel_rfl) (by kernel_rfl) (by kernel_rfl) (fun _ _ _ h => h) (Or.inl ⟨by rfl, ?_⟩) SW ?_
  · intro W5 hW5
    have y1 := (HP1.out W5 hW5).cell (i := 0) rfl
    go_simp <;> first | done | rfl | (rw [IntKind.wrap_i64]; omega) | omega
  go_simp
  refine wpAnyH_take (i := 2) (v := .pointer (some ⟨b, 0, none⟩)) rfl (by kernel_rfl) (by kernel_rfl) (by kernel_rfl) (fun _ _ _ h => h) (Or.inl ⟨by rfl, ?_⟩) SW ?_
  · intro W5 hW5
    go_simp <;> first | done | rfl | (rw [IntKind.wrap_i64]; omega) | omega
  go_simp
  refine wpAnyH_take (i := 3) (v := .pointer (some ⟨b, 0, none⟩)) rfl (by kernel_rfl) (by kernel_rfl) (by kernel_rfl) (fun _ _ _ h => h) (Or.inl ⟨by rfl, ?_⟩) SW ?_
  · intro W5 hW5
    go_simp <;> first | done | rfl | (rw [IntKind.wrap_i64]; omega) | omega
  go_simp
  refine wpAnyH_take (i := 4) (v := .pointer (some ⟨b, x, none⟩)) rfl (by kernel_rfl) (by kernel_rfl) (by kernel_rfl) (fun _ _ _ h => h) (Or.inl ⟨by rfl, ?_⟩) SW ?_
  · intro W5 hW5
    go_simp <;> first | done | rfl | (rw [IntKind.wrap_i64]; omega) | omega
  go_simp
  refine wpAnyH_take (i := 5) (v := .int .i64 zx) rfl (by kernel_rfl) (by kernel_rfl) (by kernel_rfl) (fun _ _ _ h => h) (Or.inl ⟨by rfl, ?_⟩) SW ?_
  · intro W5 hW5
    have y5 := HSZ.out W5 hW5
    go_simp <;> first | done | rfl | (rw [IntKind.wrap_i64]; omega) | omega
  go_simp
  refine wpAnyH_take (i := 6) (v := .int .i64 (x : Nat)) rfl (by kernel_rfl) (by kernel_rfl) (by kernel_rfl) (fun _ _ _ h => h) (Or.inl ⟨by rfl, ?_⟩) SW ?_
  · intro W5 hW5
    have y1 := (HP1.out W5 hW5).cell (i := 0) rfl
    go_simp <;> first | done | rfl | (rw [IntKind.wrap_i64]; omega) | omega
  go_simp
  refine wpAnyH_take (i := 7) (v := .pointer (some ⟨b, 0, none⟩)) rfl (by kernel_rfl) (by kernel_rfl) (by kernel_rfl) (fun _ _ _ h => h) (Or.inl ⟨by rfl, ?_⟩) SW ?_
  · intro W5 hW5
    have y0 := (HP0.out W5 hW5).cell (i := 0) rfl
    go_simp <;> first | done | rfl | (rw [IntKind.wrap_i64]; omega) | omega
  go_simp
  refine wpAnyH_take (i := 8) (v := .func (.func 53) #[.pointer (some ⟨b, 0, none⟩)] #[]) rfl (by kernel_rfl) (by kernel_rfl) (by kernel_rfl) (fun _ _ _ h => h) (Or.inl ⟨by rfl, ?_⟩) SW ?_
  · intro W5 hW5
    go_simp <;> first | done | rfl | (rw [IntKind.wrap_i64]; omega) | omega
  go_simp
  refine wpAnyH_ready (rs := [9]) (by kernel_rfl) (by simp) ?_
  refine AllReadyH.cons rfl (fun K1 hK1 => ?_) AllReadyH.nil
  go_simp
  refine (reachM_any zx x b _).mono ?_
  rintro r w3 ⟨rfl, hw3⟩
  have B3d : Below w2.heap.size w2 w2.drew := drewN_below _ _ 1
  have sd : w2.drew.heap.size = w2.heap.size := rfl
  have B23 : Below w2.heap.size w2 w3 := by
    rw [hw3]
    exact ((B3d.alloc (by omega) _).alloc (by simp [sd]) _).alloc (by simp [sd]; omega) _
  have s3 : w3.heap.size = w2.heap.size + 3 := by rw [hw3]; simp [sd]
  have R3 := HRN.out w2.drew ((HSB.out _ SW).1) ((HSB.out _ SW).2)
  rw [← hw3, sd] at R3
  have HR3 := hide R3
  have HI3 : Hid (TgI (w.heap.size + 2) w2 (tgS Z t e x) (fun j => j = w.heap.size + 2) [] w3) := hide ⟨fun j => Iff.rfl, HI2.out.mono B23, B23.mono (by have := HWW.out; omega)⟩
  have HW3 : Hid (w3.heap.size = w.heap.size + 6) := hide (by rw [s3, HWW.out.1])
  refine hK1.out _ _ (B23.mono (by have := HWW.out; omega)) (fun SW => ?_)
  clear hK1 K1 hw3 B3d B23 s3 R3 SW
  rw [sd]
  rw [HWW.out.1] at HR3 ⊢
  clear sd
  go_simp
  refine wpAnyH_done (by kernel_rfl) ?_ _
  go_wp2_with fail
  obtain ⟨XS, hXS⟩ : ∃ XS, rch Z zx x = XS := ⟨_, rfl⟩
  rw [hXS] at HSQ HLT HMM
  clear hXS
  refine (wpIn_wide (n := 1)).1 (wp_range_o (gf := 111) (lb := #[.pointer (some ⟨w.heap.size + 3, 0, none⟩), .pointer (some ⟨w.heap.size + 3 + 1, 0, none⟩), .pointer (some ⟨w.heap.size + 3 + 2, 0, none⟩)]) (G := RcG) (xs := XS) (R := RmR (w.heap.size + 3) (w.heap.size + 3 + 1) (w.heap.size + 3 + 2) b zx x Z (t : Nat) (kn : Nat) e h f) (T := RmT (w.heap.size + 3) (w.heap.size + 3 + 1) (w.heap.size + 3 + 2) b) (by simp [Act.eval]) (enters_of Tryz.func111 (by kernel_rfl) rfl)
    (HSQ.out _ _ _) (fun j hj => HR3.out.lt j hj) (fun A hA => HR3.out.keeps (X := fun _ => False) (Keeps.of_all hA) (fun _ _ h => h)) (fun x args W' hG => by rw [hG]; rfl)
    (fun O s W' => TgI (w.heap.size + 2) w2 (tgS Z t e x) O s W') (fun _ _ _ => False) (fun j => j = w.heap.size + 2) ?hC HI3.out ?round ?done (fun _ _ _ _ _ h => h.elim))
  case hC =>
    intro d
    have z1 := HWW.out
    have z2 := HW3.out
    refine ⟨?_, (fun _ _ h => h.elim), ?_, (fun _ _ _ h => h.elim)⟩
    · rintro O s A h j hj
      obtain rfl := (h.o j).1 hj
      exact ⟨h.a.lt, fun e => by unfold RmT at e; omega⟩
    · rintro O s A B h hk
      exact ⟨h.o, h.a.keeps hk (fun e => by omega), h.bl.trans (hk.below (Nat.le_of_lt h.a.lt) (fun j hj e => by omega))⟩
  case round =>
    rintro l2 O sx y args W6 hl2 ⟨rec, hrec⟩ hI6 hOl _ _ hpre hGx hsz6
    obtain rfl : args = #[.int .i64 (y : Nat)] := hGx
    have hy64 := HLT.out y (hpre.subset (show y ∈ sx ++ [y] by simp))
    have HI6 := hide hI6
    have HSZ6 := hide hsz6
    have HL2 := hide hl2
    clear hI6 hpre hrec hOl hsz6 hl2
    gi_wp2
    refine ⟨Below.refl _ _, ?_⟩
    intro W7 hk7
    have z1 := HWW.out
    have z2 := HW3.out
    have z3 := HSZ6.out
    have z4 := HL2.out
    have I7 : TgI (w.heap.size + 2) w2 (tgS Z t e x) O sx W7 := ⟨HI6.out.o, HI6.out.a.keeps hk7 (fun e => by omega), HI6.out.bl.trans (hk7.below (Nat.le_of_lt HI6.out.a.lt) (fun j hj e => by omega))⟩
    have HI7 := hide I7
    have p0 := (HP0.out W7 I7.bl).cell (i := 0) rfl
    have p1 := (HP1.out W7 I7.bl).cell (i := 0) rfl
    have HEY := hide (HEN.out W7 I7.bl y hy64)
    have HJY := hide (HJA.out y hy64)
    clear HI6 hk7 z1 z2 z3 z4 I7
    cases hen : entB Z t e x y with
    | false =>
      rw [hen] at HEY
      have HN := hide (tgS_no (s := sx) hen)
      clear hen
      gi_wp2
      refine (CallsIn.inRound l2 (callsIn_wide.2 HEY.out)).mono ?_
      rintro r w5 ⟨rfl, hw5⟩
      subst w5
      gi_wp2
      exact ⟨Keeps.refl _ _, O, fun _ _ h => h, HI7.out.o, by rw [HN.out]; exact HI7.out.a, HI7.out.bl⟩
    | true =>
      rw [hen] at HEY
      have hY := tgS_yes (s := sx) hy64 hen
      have hml := HMS.out sx
      have hpy := pow_lt64 hy64
      obtain ⟨mp, hmp⟩ : ∃ mp, msk (tgS Z t e x sx) 64 ||| 2 ^ y = mp := ⟨_, rfl⟩
      have hor : bits BinOp.or .u64 ((msk (tgS Z t e x sx) 64 : Nat) : Int) ((2 ^ y : Nat) : Int) = (mp : Int) := by rw [← hmp]; exact u64_or_nat _ _ hml hpy
      rw [hmp] at hY
      have V7d : Vb W7.drew (w.heap.size + 2) 87 [.int .u64 (msk (tgS Z t e x sx) 64 : Nat)] := HI7.out.a.mono (drewN_below _ _ 1)
      have ca := V7d.cell (i := 0) rfl
      have fa := V7d.frozen 0
      have kd : Keeps O W7 W7.drew := Keeps.of_all (drewN_below _ _ 1)
      have kk : Keeps (fun j => j = w.heap.size + 2) W7.drew (W7.drew.setCell ⟨w.heap.size + 2, 0, none⟩ (.int .u64 (mp : Nat))) := Keeps.set1 _ _ _ _
      have HV9 : Hid (Vb (W7.drew.setCell ⟨w.heap.size + 2, 0, none⟩ (.int .u64 (mp : Nat))) (w.heap.size + 2) 87 [.int .u64 (msk (tgS Z t e x (sx ++ [y])) 64 : Nat)]) := hide (by rw [hY]; exact V7d.set 0 _)
      have HK9 : Hid (Keeps O W7 (W7.drew.setCell ⟨w.heap.size + 2, 0, none⟩ (.int .u64 (mp : Nat)))) := hide (kd.trans (kk.mono (fun j _ e => (HI7.out.o j).2 e)))
      have HB9 : Hid (Below (w.heap.size + 2) w2 (W7.drew.setCell ⟨w.heap.size + 2, 0, none⟩ (.int .u64 (mp : Nat)))) := hide ((HI7.out.bl.trans ((drewN_below _ _ 1).mono (Nat.le_of_lt HI7.out.a.lt))).trans (kk.below (Nat.le_of_lt V7d.lt) (fun j hj e => by omega)))
      clear hen hY hmp V7d kd kk hml hpy
      generalize msk (tgS Z t e x sx) 64 = M at *
      generalize 2 ^ y = py at *
      gi_wp2
      refine (CallsIn.inRound l2 (callsIn_wide.2 HEY.out)).mono ?_
      rintro r w5 ⟨rfl, hw5⟩
      subst w5
      gi_wp2
      refine wp_region_round (S := fun _ => True) (by kernel_rfl) (by kernel_rfl) (by rintro ⟨_, _, h⟩; exact h) ?_
      have SW : True := trivial
      refine wpAnyH_take (i := 1) (v := .int .i64 (y : Nat)) rfl (by kernel_rfl) (by kernel_rfl) (by kernel_rfl) (fun _ _ _ h => h) (Or.inl ⟨by rfl, ?_⟩) SW ?_
      · intro W5 hW5
        go_simp <;> first | done | rfl | (rw [IntKind.wrap_i64]; omega) | omega
      go_simp
      refine wpAnyH_ready (rs := [0, 2]) (by kernel_rfl) (by simp) ?_
      refine AllReadyH.cons rfl (fun K1 hK1 => ?_) (AllReadyH.cons rfl (fun K1 hK1 => ?_) AllReadyH.nil)
      · go_simp
        refine hK1.out _ _ SW (fun SW => ?_)
        clear hK1 K1
        go_simp
        refine wpAnyH_ready (rs := [2]) (by kernel_rfl) (by simp) ?_
        refine AllReadyH.cons rfl (fun K1 hK1 => ?_) AllReadyH.nil
        go_simp
        refine (HJY.out _).mono ?_
        rintro r w5 ⟨rfl, hw⟩
        subst w5
        refine hK1.out _ _ SW (fun SW => ?_)
        clear hK1 K1
        go_simp
        refine wpAnyH_take (i := 3) (v := .int .u64 (mp : Nat)) rfl (by kernel_rfl) (by kernel_rfl) (by kernel_rfl) (fun _ _ _ h => h) (Or.inl ⟨by rfl, ?_⟩) SW ?_
        · intro W5 hW5
          go_simp <;> first | done | rfl | (rw [IntKind.wrap_i64]; omega) | omega
        go_simp
        refine wpAnyH_ready (rs := [4]) (by kernel_rfl) (by simp) ?_
        refine AllReadyH.cons rfl (fun K1 hK1 => ?_) AllReadyH.nil
        go_simp
        refine hK1.out _ _ trivial (fun SW => ?_)
        clear hK1 K1
        go_simp
        refine wpAnyH_done (by kernel_rfl) ?_ _
        clear SW
        gi_wp2
        exact ⟨HK9.out, O, fun _ _ h => h, HI7.out.o, HV9.out, HB9.out⟩
      · go_simp
        refine (HJY.out _).mono ?_
        rintro r w5 ⟨rfl, hw⟩
        subst w5
        refine hK1.out _ _ SW (fun SW => ?_)
        clear hK1 K1
        go_simp
        refine wpAnyH_ready (rs := [0]) (by kernel_rfl) (by simp) ?_
        refine AllReadyH.cons rfl (fun K1 hK1 => ?_) AllReadyH.nil
        go_simp
        refine hK1.out _ _ SW (fun SW => ?_)
        clear hK1 K1
        go_simp
        refine wpAnyH_take (i := 3) (v := .int .u64 (mp : Nat)) rfl (by kernel_rfl) (by kernel_rfl) (by kernel_rfl) (fun _ _ _ h => h) (Or.inl ⟨by rfl, ?_⟩) SW ?_
        · intro W5 hW5
          go_simp <;> first | done | rfl | (rw [IntKind.wrap_i64]; omega) | omega
        go_simp
        refine wpAnyH_ready (rs := [4]) (by kernel_rfl) (by simp) ?_
        refine AllReadyH.cons rfl (fun K1 hK1 => ?_) AllReadyH.nil
        go_simp
        refine hK1.out _ _ trivial (fun SW => ?_)
        clear hK1 K1
        go_simp
        refine wpAnyH_done (by kernel_rfl) ?_ _
        clear SW
        gi_wp2
        exact ⟨HK9.out, O, fun _ _ h => h, HI7.out.o, HV9.out, HB9.out⟩
  case done =>
    rintro D O W6 hD hI6 hk6 hm6 hKD
    have z1 := HWW.out
    have z2 := HW3.out
    have V6 := hI6.a
    have B6 := hI6.bl
    have p0 := (HP0.out W6 B6).cell (i := 0) rfl
    have p1 := (HP1.out W6 B6).cell (i := 0) rfl
    have HKX := hide (HKO.out W6 B6)
    have HDD : Hid (D = w.heap.size + 6) := hide (by rw [hD]; exact z2)
    have V6d : Vb W6.drew (w.heap.size + 2) 87 [.int .u64 (msk (tgS Z t e x XS) 64 : Nat)] := V6.mono (drewN_below _ _ 1)
    have B6d : Below (w.heap.size + 2) w2 W6.drew := B6.trans ((drewN_below _ _ 1).mono (Nat.le_of_lt V6.lt))
    have HD6 : Hid (W6.drew.heap[D]? = some (.deferred (some []))) := hide hKD
    have hml := HMS.out XS
    obtain ⟨n, hn⟩ : ∃ n, zx.natAbs = n := ⟨_, rfl⟩
    rw [hn] at HKX HAH HMM
    by_cases h1 : n = 1
    · subst h1
      have HAX := hide (HAH.out rfl)
      obtain ⟨mp, hmp⟩ : ∃ mp, msk (tgS Z t e x XS) 64 ||| msk (ahB Z t x) 64 = mp := ⟨_, rfl⟩
      have hor : bits BinOp.or .u64 ((msk (tgS Z t e x XS) 64 : Nat) : Int) ((msk (ahB Z t x) 64 : Nat) : Int) = (mp : Int) := by rw [← hmp]; exact u64_or_nat _ _ hml HMA.out
      have HMV : Hid (MM = mp) := hide (by rw [HMM.out, ← hmp, msk_or]; exact msk_congr (fun q _ => by simp))
      have ca := V6d.cell (i := 0) rfl
      have fa := V6d.frozen 0
      have kk : Keeps (fun j => j = w.heap.size + 2) W6.drew (W6.drew.setCell ⟨w.heap.size + 2, 0, none⟩ (.int .u64 (mp : Nat))) := Keeps.set1 _ _ _ _
      have V9 := V6d.set 0 (.int .u64 (mp : Nat))
      have c9 := V9.cell (i := 0) rfl
      have HSN : Hid (Below (w.heap.size + 2) w2 (W6.drew.setCell ⟨w.heap.size + 2, 0, none⟩ (.int .u64 (mp : Nat)))) := hide (B6d.trans (kk.below (Nat.le_of_lt V6d.lt) (fun j hj e => by omega)))
      have HBF : Hid (Below w.heap.size w (W6.drew.setCell ⟨w.heap.size + 2, 0, none⟩ (.int .u64 (mp : Nat)))) := hide (HB2.out.trans (HSN.out.mono (by omega)))
      have HMK : Hid (Mks (fun _ => False) (w.heap.size + 3) (W6.drew.setCell ⟨w.heap.size + 2, 0, none⟩ (.int .u64 (mp : Nat))) [{ target := .collected D, args := #[] }]) := hide ⟨[D], rfl, by simp, fun E hE => by rw [List.mem_singleton.1 hE]; exact ⟨(kk.block D (Array.getElem?_eq_some_iff.1 HD6.out).1 (fun e => by have := HDD.out; omega)).trans HD6.out, by have := HDD.out; omega, fun h => h⟩⟩
      clear hmp kk V9 V6 hI6 hk6 hm6 hKD hD z1 z2 hn HMM HMA hml HMS
      generalize msk (tgS Z t e x XS) 64 = M at *
      generalize msk (ahB Z t x) 64 = A at *
      go_upto_region 8 with (go_at_call 52; refine HKX.out.mono ?_; rintro e w5 ⟨rfl, hw⟩; subst w5)
      refine wp_calm2 ?_
      refine wp_region_held (S := fun W5 => Below (w.heap.size + 2) w2 W5) (by kernel_rfl) ?_
      change wpAnyH _ _ _ _ _ _ _ _ (World.drew _)
      have SW : Below (w.heap.size + 2) w2 W6.drew := B6d
      generalize W6.drew = wd at *
      refine wpAnyH_take (i := 1) (v := .pointer (some ⟨b, 0, none⟩)) rfl (by kernel_rfl) (by kernel_rfl) (by kernel_rfl) (fun _ _ _ h => h) (Or.inl ⟨by rfl, ?_⟩) SW ?_
      · intro W5 hW5
        have y0 := (HP0.out W5 hW5).cell (i := 0) rfl
        go_simp <;> first | done | rfl | (rw [IntKind.wrap_i64]; omega) | omega
      go_simp
      refine wpAnyH_take (i := 2) (v := .int .i64 (x : Nat)) rfl (by kernel_rfl) (by kernel_rfl) (by kernel_rfl) (fun _ _ _ h => h) (Or.inl ⟨by rfl, ?_⟩) SW ?_
      · intro W5 hW5
        have y1 := (HP1.out W5 hW5).cell (i := 0) rfl
        go_simp <;> first | done | rfl | (rw [IntKind.wrap_i64]; omega) | omega
      go_simp
      refine wpAnyH_ready (rs := [0, 3]) (by kernel_rfl) (by simp) ?_
      refine AllReadyH.cons rfl (fun K1 hK1 => ?_) (AllReadyH.cons rfl (fun K1 hK1 => ?_) AllReadyH.nil)
      · go_simp
        refine hK1.out _ _ SW (fun SW => ?_)
        clear hK1 K1
        go_simp
        refine wpAnyH_ready (rs := [3]) (by kernel_rfl) (by simp) ?_
        refine AllReadyH.cons rfl (fun K1 hK1 => ?_) AllReadyH.nil
        go_simp
        refine (HAX.out _ SW).mono ?_
        rintro r w5 ⟨rfl, hw⟩
        subst w5
        refine hK1.out _ _ SW (fun SW => ?_)
        clear hK1 K1
        go_simp
        refine wpAnyH_take (i := 4) (v := .int .u64 (mp : Nat)) rfl (by kernel_rfl) (by kernel_rfl) (by kernel_rfl) (fun _ _ _ h => h) (Or.inl ⟨by rfl, ?_⟩) SW ?_
        · intro W5 hW5
          go_simp <;> first | done | rfl | (rw [IntKind.wrap_i64]; omega) | omega
        go_simp
        refine wpAnyH_ready (rs := [5]) (by kernel_rfl) (by simp) ?_
        refine AllReadyH.cons rfl (fun K1 hK1 => ?_) AllReadyH.nil
        go_simp
        refine hK1.out _ _ HSN.out (fun SW => ?_)
        clear hK1 K1 ca fa
        generalize wd.setCell ⟨w.heap.size + 2, 0, none⟩ (.int .u64 (mp : Nat)) = w8 at *
        go_simp
        refine wpAnyH_done (by kernel_rfl) ?_ _
        clear SW
        go_wp2_with fail
        refine leaves_mks HMK.out (fun w9 hk9 => ?_)
        exact ⟨_, results_tmp rfl _ _ _, by rw [HMV.out]; rfl, HBF.out.trans (hk9.below HBF.out.size (fun j hj e => by have := e.1; omega))⟩
      · go_simp
        refine (HAX.out _ SW).mono ?_
        rintro r w5 ⟨rfl, hw⟩
        subst w5
        refine hK1.out _ _ SW (fun SW => ?_)
        clear hK1 K1
        go_simp
        refine wpAnyH_ready (rs := [0]) (by kernel_rfl) (by simp) ?_
        refine AllReadyH.cons rfl (fun K1 hK1 => ?_) AllReadyH.nil
        go_simp
        refine hK1.out _ _ SW (fun SW => ?_)
        clear hK1 K1
        go_simp
        refine wpAnyH_take (i := 4) (v := .int .u64 (mp : Nat)) rfl (by kernel_rfl) (by kernel_rfl) (by kernel_rfl) (fun _ _ _ h => h) (Or.inl ⟨by rfl, ?_⟩) SW ?_
        · intro W5 hW5
          go_simp <;> first | done | rfl | (rw [IntKind.wrap_i64]; omega) | omega
        go_simp
        refine wpAnyH_ready (rs := [5]) (by kernel_rfl) (by simp) ?_
        refine AllReadyH.cons rfl (fun K1 hK1 => ?_) AllReadyH.nil
        go_simp
        refine hK1.out _ _ HSN.out (fun SW => ?_)
        clear hK1 K1 ca fa
        generalize wd.setCell ⟨w.heap.size + 2, 0, none⟩ (.int .u64 (mp : Nat)) = w8 at *
        go_simp
        refine wpAnyH_done (by kernel_rfl) ?_ _
        clear SW
        go_wp2_with fail
        refine leaves_mks HMK.out (fun w9 hk9 => ?_)
        exact ⟨_, results_tmp rfl _ _ _, by rw [HMV.out]; rfl, HBF.out.trans (hk9.below HBF.out.size (fun j hj e => by have := e.1; omega))⟩
    · have b1 : ((n : Int) == 1) = false := by simp; omega
      by_cases h6 : n = 6
      · subst h6
        obtain ⟨mp, hmp⟩ : ∃ mp, msk (tgS Z t e x XS) 64 ||| msk (casB Z t kn) 64 = mp := ⟨_, rfl⟩
        have hor : bits BinOp.or .u64 ((msk (tgS Z t e x XS) 64 : Nat) : Int) ((msk (casB Z t kn) 64 : Nat) : Int) = (mp : Int) := by rw [← hmp]; exact u64_or_nat _ _ hml HMC.out
        have HMV : Hid (MM = mp) := hide (by rw [HMM.out, ← hmp, msk_or]; exact msk_congr (fun q _ => by simp))
        have ca := V6d.cell (i := 0) rfl
        clear hmp V6 hI6 hk6 hm6 hKD hD z1 z2 hn HMM HMA hml HMS HMC
        generalize msk (tgS Z t e x XS) 64 = M at *
        generalize msk (casB Z t kn) 64 = A at *
        go_upto_region 10 with (go_at_call 52; refine HKX.out.mono ?_; rintro e w5 ⟨rfl, hw⟩; subst w5)
        refine wp_calm2 ?_
        refine wp_region_held (S := fun W5 => Below (w.heap.size + 2) w2 W5) (by kernel_rfl) ?_
        change wpAnyH _ _ _ _ _ _ _ _ (World.drew _)
        have SW : Below (w.heap.size + 2) w2 W6.drew := B6d
        refine wpAnyH_take (i := 1) (v := .pointer (some ⟨b, 0, none⟩)) rfl (by kernel_rfl) (by kernel_rfl) (by kernel_rfl) (fun _ _ _ h => h) (Or.inl ⟨by rfl, ?_⟩) SW ?_
        · intro W5 hW5
          have y0 := (HP0.out W5 hW5).cell (i := 0) rfl
          go_simp <;> first | done | rfl | (rw [IntKind.wrap_i64]; omega) | omega
        go_simp
        refine wpAnyH_ready (rs := [0, 2]) (by kernel_rfl) (by simp) ?_
        refine AllReadyH.cons rfl (fun K1 hK1 => ?_) (AllReadyH.cons rfl (fun K1 hK1 => ?_) AllReadyH.nil)
        · go_simp
          refine hK1.out _ _ SW (fun SW => ?_)
          clear hK1 K1
          go_simp
          refine wpAnyH_ready (rs := [2]) (by kernel_rfl) (by simp) ?_
          refine AllReadyH.cons rfl (fun K1 hK1 => ?_) AllReadyH.nil
          go_simp
          refine (HCA.out _ SW).mono ?_
          rintro r w7 ⟨rfl, hb7⟩
          refine hK1.out _ _ (SW.trans (hb7.mono (Nat.le_of_lt V6d.lt))) (fun SW => ?_)
          clear hK1 K1
          go_simp
          refine wpAnyH_take (i := 3) (v := .int .u64 (mp : Nat)) rfl (by kernel_rfl) (by kernel_rfl) (by kernel_rfl) (fun _ _ _ h => h) (Or.inl ⟨by rfl, ?_⟩) SW ?_
          · intro W5 hW5
            go_simp <;> first | done | rfl | (rw [IntKind.wrap_i64]; omega) | omega
          go_simp
          refine wpAnyH_ready (rs := [4]) (by kernel_rfl) (by simp) ?_
          refine AllReadyH.cons rfl (fun K1 hK1 => ?_) AllReadyH.nil
          have V7 := V6d.mono hb7
          have ca7 := V7.cell (i := 0) rfl
          have fa7 := V7.frozen 0
          have kk7 : Keeps (fun j => j = w.heap.size + 2) w7 (w7.setCell ⟨w.heap.size + 2, 0, none⟩ (.int .u64 (mp : Nat))) := Keeps.set1 _ _ _ _
          have V8 := V7.set 0 (.int .u64 (mp : Nat))
          have B8 := SW.trans (kk7.below (Nat.le_of_lt V7.lt) (fun j hj e => by omega))
          have D8 := (kk7.block D (Nat.lt_of_lt_of_le (Array.getElem?_eq_some_iff.1 HD6.out).1 hb7.size) (fun e => by have := HDD.out; omega)).trans ((hb7.block D (Array.getElem?_eq_some_iff.1 HD6.out).1).trans HD6.out)
          have c8 := V8.cell (i := 0) rfl
          go_simp
          refine hK1.out _ _ B8 (fun SW => ?_)
          clear hK1 K1 ca7 fa7
          have HMK : Hid (Mks (fun _ => False) (w.heap.size + 3) _ [{ target := .collected D, args := #[] }]) := hide ⟨[D], rfl, by simp, fun E hE => by rw [List.mem_singleton.1 hE]; exact ⟨D8, by have := HDD.out; omega, fun h => h⟩⟩
          have HBF : Hid (Below w.heap.size w _) := hide (HB2.out.trans (B8.mono (by omega)))
          clear V7 kk7 V8 B8 D8 SW hb7
          generalize w7.setCell ⟨w.heap.size + 2, 0, none⟩ (.int .u64 (mp : Nat)) = w8 at *
          go_simp
          refine wpAnyH_done (by kernel_rfl) ?_ _
          go_wp2_with fail
          refine leaves_mks HMK.out (fun w9 hk9 => ?_)
          exact ⟨_, results_tmp rfl _ _ _, by rw [HMV.out]; rfl, HBF.out.trans (hk9.below HBF.out.size (fun j hj e => by have := e.1; omega))⟩
        · go_simp
          refine (HCA.out _ SW).mono ?_
          rintro r w7 ⟨rfl, hb7⟩
          refine hK1.out _ _ (SW.trans (hb7.mono (Nat.le_of_lt V6d.lt))) (fun SW => ?_)
          clear hK1 K1
          have V7a := V6d.mono hb7
          have ca7a := V7a.cell (i := 0) rfl
          go_simp
          refine wpAnyH_ready (rs := [0]) (by kernel_rfl) (by simp) ?_
          refine AllReadyH.cons rfl (fun K1 hK1 => ?_) AllReadyH.nil
          go_simp
          refine hK1.out _ _ SW (fun SW => ?_)
          clear hK1 K1
          go_simp
          clear ca7a V7a
          refine wpAnyH_take (i := 3) (v := .int .u64 (mp : Nat)) rfl (by kernel_rfl) (by kernel_rfl) (by kernel_rfl) (fun _ _ _ h => h) (Or.inl ⟨by rfl, ?_⟩) SW ?_
          · intro W5 hW5
            go_simp <;> first | done | rfl | (rw [IntKind.wrap_i64]; omega) | omega
          go_simp
          refine wpAnyH_ready (rs := [4]) (by kernel_rfl) (by simp) ?_
          refine AllReadyH.cons rfl (fun K1 hK1 => ?_) AllReadyH.nil
          have V7 := V6d.mono hb7
          have ca7 := V7.cell (i := 0) rfl
          have fa7 := V7.frozen 0
          have kk7 : Keeps (fun j => j = w.heap.size + 2) w7 (w7.setCell ⟨w.heap.size + 2, 0, none⟩ (.int .u64 (mp : Nat))) := Keeps.set1 _ _ _ _
          have V8 := V7.set 0 (.int .u64 (mp : Nat))
          have B8 := SW.trans (kk7.below (Nat.le_of_lt V7.lt) (fun j hj e => by omega))
          have D8 := (kk7.block D (Nat.lt_of_lt_of_le (Array.getElem?_eq_some_iff.1 HD6.out).1 hb7.size) (fun e => by have := HDD.out; omega)).trans ((hb7.block D (Array.getElem?_eq_some_iff.1 HD6.out).1).trans HD6.out)
          have c8 := V8.cell (i := 0) rfl
          go_simp
          refine hK1.out _ _ B8 (fun SW => ?_)
          clear hK1 K1 ca7 fa7
          have HMK : Hid (Mks (fun _ => False) (w.heap.size + 3) _ [{ target := .collected D, args := #[] }]) := hide ⟨[D], rfl, by simp, fun E hE => by rw [List.mem_singleton.1 hE]; exact ⟨D8, by have := HDD.out; omega, fun h => h⟩⟩
          have HBF : Hid (Below w.heap.size w _) := hide (HB2.out.trans (B8.mono (by omega)))
          clear V7 kk7 V8 B8 D8 SW hb7
          generalize w7.setCell ⟨w.heap.size + 2, 0, none⟩ (.int .u64 (mp : Nat)) = w8 at *
          go_simp
          refine wpAnyH_done (by kernel_rfl) ?_ _
          go_wp2_with fail
          refine leaves_mks HMK.out (fun w9 hk9 => ?_)
          exact ⟨_, results_tmp rfl _ _ _, by rw [HMV.out]; rfl, HBF.out.trans (hk9.below HBF.out.size (fun j hj e => by have := e.1; omega))⟩
      · have b6 : ((n : Int) == 6) = false := by simp; omega
        have HMV : Hid (MM = msk (tgS Z t e x XS) 64) := hide (by rw [HMM.out]; exact msk_congr (fun q _ => by simp [h1, h6]))
        have c6 := V6.cell (i := 0) rfl
        have HBF : Hid (Below w.heap.size w W6) := hide (HB2.out.trans (B6.mono (by omega)))
        have HMK : Hid (Mks (fun _ => False) (w.heap.size + 3) W6 [{ target := .collected D, args := #[] }]) := hide ⟨[D], rfl, by simp, fun E hE => by rw [List.mem_singleton.1 hE]; exact ⟨hKD, by have := HDD.out; omega, fun h => h⟩⟩
        clear V6 V6d B6d hI6 hk6 hm6 hKD hD z1 z2 hn HMM HMA hml HMS
        generalize msk (tgS Z t e x XS) 64 = M at *
        go_wp2_with (go_at_call 52; refine HKX.out.mono ?_; rintro e w5 ⟨rfl, hw⟩; subst w5)
        refine leaves_mks HMK.out (fun w9 hk9 => ?_)
        exact ⟨_, results_tmp rfl _ _ _, by rw [HMV.out]; rfl, HBF.out.trans (hk9.below HBF.out.size (fun j hj e => by have := e.1; omega))⟩

end Go.Proofs.YtdmlamnonbmboaaGreatDoor
