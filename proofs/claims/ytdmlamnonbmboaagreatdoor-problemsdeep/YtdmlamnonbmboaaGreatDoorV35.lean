/-
  Chess: the moves of one piece, one by one: walked. No conditions beyond those that each theorem bears.
  Chess: whether a move would leave its own king attacked, walked. No conditions beyond those that each theorem bears.
-/
import Derived.Test.YtdmlamnonbmboaaGreatDoorV28
import Derived.Test.YtdmlamnonbmboaaGreatDoorV12
import Derived.Test.YtdmlamnonbmboaaGreatDoorV30
import Derived.Test.YtdmlamnonbmboaaGreatDoorV31
namespace Go.Proofs.YtdmlamnonbmboaaGreatDoor
open Go.RowKit Go.Shelf

/-- A move as a value. -/
abbrev mvV (m : Nat × Nat × Nat) : Value := .agg #[.int .i64 (m.1 : Nat), .int .i64 (m.2.1 : Nat), .int .i64 (m.2.2 : Nat)]
def MvG (m : Nat × Nat × Nat) (args : Array Value) (_ : World) : Prop := args = #[mvV m]

/-- What movesFrom has captured. -/
structure MfR (sb fb b : Nat) (Z : List Int) (t k e h f : Int) (x : Nat) (W : World) : Prop where
  p : W.cell? ⟨sb, 0, none⟩ = some (.pointer (some ⟨b, 0, none⟩))
  o : W.cell? ⟨fb, 0, none⟩ = some (.int .i64 (x : Nat))
  z : Sb W b Z t k e h f
  ts : TabS W
  tz : TzT W
def MfT (sb fb b : Nat) (k : Nat) : Prop := k = 1 ∨ k = 2 ∨ k = sb ∨ k = fb ∨ k = b
theorem MfR.keeps {sb fb b : Nat} {Z : List Int} {t k e h f : Int} {x : Nat} {X : Nat → Prop} {W W' : World} (H : MfR sb fb b Z t k e h f x W) (hk : Keeps X W W') (hX : ∀ j, MfT sb fb b j → ¬ X j) : MfR sb fb b Z t k e h f x W' :=
  ⟨hk.cell H.p (hX sb (by unfold MfT; simp)), hk.cell H.o (hX fb (by unfold MfT; simp)), H.z.keeps hk (hX b (by unfold MfT; simp)), H.ts.keeps hk (hX 1 (by unfold MfT; simp)), H.tz.keeps hk (hX 2 (by unfold MfT; simp))⟩
theorem MfR.lt {sb fb b : Nat} {Z : List Int} {t k e h f : Int} {x : Nat} {W : World} (H : MfR sb fb b Z t k e h f x W) : ∀ j, MfT sb fb b j → j < W.heap.size := by
  rintro j (rfl | rfl | rfl | rfl | rfl)
  · exact H.ts.lt
  · exact H.tz.lt
  · exact World.block_lt_of_cell? W _ H.p
  · exact World.block_lt_of_cell? W _ H.o
  · exact H.z.lt
theorem movesFrom_any (b x : Nat) (w : World) : Calls Tryz.prog 64 #[.pointer (some ⟨b, 0, none⟩), .int .i64 (x : Nat)] w fun r w' => r = .returned (.func (.func 91) #[] #[.pointer (some ⟨w.heap.size, 0, none⟩), .pointer (some ⟨w.heap.size + 1, 0, none⟩)]) ∧ w' = (w.alloc (.cells #[.pointer (some ⟨b, 0, none⟩)] 80)).alloc (.cells #[.int .i64 (x : Nat)] 3) := by
  go_enter Tryz.func64, Tryz.ntmps64
  go_wp2
  go_ret
  exact ⟨rfl, rfl⟩
theorem MfR.new {b : Nat} (x : Nat) {Z : List Int} {t k e h f : Int} {w : World} (hs : Sb w b Z t k e h f) (h1 : TabS w) (h2 : TzT w) :
    MfR w.heap.size (w.heap.size + 1) b Z t k e h f x ((w.alloc (.cells #[.pointer (some ⟨b, 0, none⟩)] 80)).alloc (.cells #[.int .i64 (x : Nat)] 3)) := by
  have B := ((Below.refl w.heap.size w).alloc (Nat.le_refl _) (.cells #[.pointer (some ⟨b, 0, none⟩)] 80)).alloc (by simp) (.cells #[.int .i64 (x : Nat)] 3)
  refine ⟨old_cell _ (new_cell w _ 80), ?_, hs.mono B, h1.mono B, h2.mono B⟩
  have := new_cell (w.alloc (.cells #[.pointer (some ⟨b, 0, none⟩)] 80)) (.int .i64 (x : Nat)) 3
  rwa [World.size_alloc] at this

/-- The moves to one place. -/
def mi (x q a j : Nat) : List (Nat × Nat × Nat) := (List.range' a j).map fun n => (x, q, n)
theorem mi_zero (x q a : Nat) : mi x q a 0 = [] := rfl
theorem mi_succ (x q a j : Nat) : mi x q a (j + 1) = mi x q a j ++ [(x, q, a + j)] := by unfold mi; rw [List.range'_concat]; simp
theorem mi_pre (x q a : Nat) {i j : Nat} (h : i ≤ j) : mi x q a i <+: mi x q a j := by
  induction j with
  | zero => obtain rfl : i = 0 := by omega
            exact List.prefix_refl _
  | succ j ih =>
    by_cases e : i = j + 1
    · subst e; exact List.prefix_refl _
    · refine (ih (by omega)).trans ?_
      rw [mi_succ]; exact List.prefix_append _ _
def mfS (Z : List Int) (x : Nat) (s : List Nat) : List (Nat × Nat × Nat) := s.flatMap fun q => (inB Z x q).map fun n => (x, q, n)
theorem mfS_nil (Z : List Int) (x : Nat) : mfS Z x [] = [] := rfl
theorem mfS_snoc (Z : List Int) (x : Nat) (s : List Nat) (q : Nat) : mfS Z x (s ++ [q]) = mfS Z x s ++ (inB Z x q).map fun n => (x, q, n) := by unfold mfS; rw [List.flatMap_append]; simp
theorem mfS_pre {Z : List Int} {x : Nat} {s L : List Nat} (h : s <+: L) : mfS Z x s <+: mfS Z x L := by
  obtain ⟨r, rfl⟩ := h
  unfold mfS
  rw [List.flatMap_append]; exact List.prefix_append _ _
theorem mfL_S (Z : List Int) (t : Nat) (k e : Int) (x : Nat) : mfL Z t k e x = mfS Z x (bln (msk (tgB Z t k e x) 64) 64) := by rw [bln_msk]; rfl
theorem inB_edge {Z : List Int} {x q : Nat} (h : (zg Z x).natAbs = 1 ∧ edge (q : Int) = true) : ((inB Z x q).map fun n => (x, q, n)) = mi x q 2 4 := by unfold inB; rw [if_pos h]; rfl
theorem inB_plain {Z : List Int} {x q : Nat} (h : ¬ ((zg Z x).natAbs = 1 ∧ edge (q : Int) = true)) : ((inB Z x q).map fun n => (x, q, n)) = mi x q 0 1 := by unfold inB; rw [if_neg h]; rfl
theorem bln_lt {M n q : Nat} (h : q ∈ bln M n) : q < n := by
  unfold bln at h
  exact List.mem_range.1 (List.mem_filter.1 h).1

attribute [local irreducible] mfS mi inB bln msk mfL edge
attribute [local go_sem] Oper.semAt_some wide_fn wide_fn0 wide_depth

set_option maxRecDepth 100000 in
set_option maxHeartbeats 16000000 in
theorem movesFrom1_seq (sb fb b : Nat) (Z : List Int) (t kn : Nat) (e h f : Int) (ht : t ≤ 1) (hz : Pz Z) (hkn : kn ≤ 15) (x : Nat) (hx : x < 64) (hX : KX (zg Z x)) (hpw : (zg Z x).natAbs = 1 → 8 ≤ x ∧ x < 56) :
    SeqO Tryz.prog 91 #[.pointer (some ⟨sb, 0, none⟩), .pointer (some ⟨fb, 0, none⟩)] MvG (mfL Z t kn e x) (MfR sb fb b Z (t : Nat) (kn : Nat) e h f x) (MfT sb fb b) := by
  intro l J Jx N0 W O0 hR hN hC hY h0
  have HLT := hide hR.lt
  have HO0 : Hid (∀ j, O0 j → j < W.heap.size ∧ ¬ MfT sb fb b j) := hide (hC.lt _ _ _ h0)
  have HC := hide hC
  have HY := hide hY
  have HN := hide hN
  have HTG := hide (fun W' h1 h2 => targets_any b Z t kn e h f ht hz hkn x hx hX hpw W' h1 h2)
  have HKO := hide (fun W' h1 => kindOn_any b Z t kn e h f hz x hx W' h1)
  have HXS := hide (mfL_S Z t kn e x)
  have HM := hide (msk_lt (tgB Z t kn e x) 64 (by omega))
  have HI1 := hide (fun q => @inB_edge Z x q)
  have HI2 := hide (fun q => @inB_plain Z x q)
  obtain ⟨XS, hXS⟩ : ∃ XS, mfL Z t kn e x = XS := ⟨_, rfl⟩
  obtain ⟨M, hM⟩ : ∃ M, msk (tgB Z t kn e x) 64 = M := ⟨_, rfl⟩
  rw [hXS] at HY HXS ⊢
  rw [hM] at HTG HXS HM
  obtain ⟨kd, hkd⟩ : ∃ kd, (zg Z x).natAbs = kd := ⟨_, rfl⟩
  rw [hkd] at HKO HI1 HI2
  obtain ⟨W1, hW1⟩ : ∃ W1, W.alloc (.cells #[.func (.yield l) #[] #[]] 56) = W1 := ⟨_, rfl⟩
  have B1 : Below W.heap.size W W1 := by rw [← hW1]; exact (Below.refl _ _).alloc (Nat.le_refl _) _
  have s1 : W1.heap.size = W.heap.size + 1 := by rw [← hW1]; simp
  have cy : W1.cell? ⟨W.heap.size, 0, none⟩ = some (.func (.yield l) #[] #[]) := by rw [← hW1]; exact new_cell W _ 56
  have R1 := hR.keeps (X := fun _ => False) (Keeps.of_all B1) (fun _ _ e => e)
  have c1 := R1.p
  have c2 := R1.o
  have HJ1 : Hid (J O0 [] W1) := hide (hC.keep _ _ _ _ h0 (Keeps.of_all B1))
  have HB1 := hide B1
  have HS1 := hide s1
  have HCY := hide cy
  have HR1 := hide R1
  clear hR hN hC hY h0 B1 s1 cy R1 hXS hM hkd hz hX hpw
  refine callsIn_of_wp_marks Tryz.func91 rfl trivial ?_ rfl
  simp only [Tryz.ntmps91, List.size_toArray, List.length_cons, List.length_nil, Nat.reduceAdd, Nat.reduceSub, Array.replicate_succ, Array.replicate_zero, List.push_toArray, List.append_toArray, List.nil_append, List.cons_append]
  refine wpIn_wide.2 ?_
  go_upto_region 1 with fail
  clear hW1
  go_wp2_with fail
  refine (HTG.out _ HR1.out.z HR1.out.ts).mono ?_
  rintro r w2 ⟨rfl, hb2⟩
  have R2 := HR1.out.keeps (X := fun _ => False) (Keeps.of_all hb2) (fun _ _ e => e)
  have cy2 := (hb2.cell (p := ⟨W.heap.size, 0, none⟩) (World.block_lt_of_cell? W1 _ HCY.out)).trans HCY.out
  have HB2 := hide (HB1.out.trans (hb2.mono HB1.out.size))
  have HJ2 := hide (HC.out.keep _ _ _ _ HJ1.out (Keeps.of_all hb2))
  have HR2 := hide R2
  have HCY2 := hide cy2
  have HZ2 := hide hb2.size
  clear hb2 c1 c2 R2 cy2 HR1 HCY HJ1
  go_wp2_with fail
  refine (each_any M _).mono ?_
  rintro r w3 ⟨rfl, hw3⟩
  have hb3 : Below w2.heap.size w2 w3 := by rw [hw3]; exact (Below.refl _ _).alloc (Nat.le_refl _) _
  have s3 : w3.heap.size = w2.heap.size + 1 := by rw [hw3]; simp
  have cm3 : w3.cell? ⟨w2.heap.size, 0, none⟩ = some (.int .u64 (M : Nat)) := by rw [hw3]; exact new_cell w2 _ 87
  have HR3 := hide (HR2.out.keeps (X := fun _ => False) (Keeps.of_all hb3) (fun _ _ e => e))
  have HCY3 := hide ((hb3.cell (p := ⟨W.heap.size, 0, none⟩) (World.block_lt_of_cell? w2 _ HCY2.out)).trans HCY2.out)
  have HB3 := hide (HB2.out.trans (hb3.mono HB2.out.size))
  have HJ3 := hide (HC.out.keep _ _ _ _ HJ2.out (Keeps.of_all hb3))
  have HE3 : Hid (EaR w2.heap.size M w3) := hide ⟨cm3, HR3.out.tz⟩
  have HS3 : Hid (w3.heap.size = w2.heap.size + 1 ∧ W.heap.size + 1 ≤ w2.heap.size) := hide ⟨s3, by have := HS1.out; have := HZ2.out; omega⟩
  have HN3 : Hid (N0 ≤ w3.heap.size) := hide (Nat.le_trans HN.out HB3.out.size)
  have HRK : Hid (∀ W', Keeps O0 w3 W' → MfR sb fb b Z (t : Nat) (kn : Nat) e h f x W' ∧ W'.cell? ⟨W.heap.size, 0, none⟩ = some (.func (.yield l) #[] #[])) := hide (fun W' hk => ⟨HR3.out.keeps hk (fun k hk2 h => (HO0.out k h).2 hk2), hk.cell HCY3.out (fun h => by have := (HO0.out _ h).1; dsimp only at this; omega)⟩)
  clear hw3 hb3 s3 cm3 HR2 HCY2 HJ2 HTG
  go_wp2_with fail
  refine (wpIn_wide (n := 1)).1 (wp_range_o (gf := 89) (lb := #[.pointer (some ⟨w2.heap.size, 0, none⟩)]) (G := EaG) (xs := bln M 64) (R := EaR w2.heap.size M) (T := fun k => k = w2.heap.size ∨ k = 2) (by simp [Act.eval]) (enters_of Tryz.func89 (by kernel_rfl) rfl)
    (each1_o w2.heap.size M HM.out) ?hT (fun A hA => ⟨(hA.cell (p := ⟨w2.heap.size, 0, none⟩) (by have := HS3.out; show w2.heap.size < _; omega)).trans HE3.out.1, HE3.out.2.mono hA⟩) (fun x args W' hG => by rw [hG]; rfl)
    (fun O s W' => J O (mfS Z x s) W' ∧ (∀ j, j < w3.heap.size → O j → O0 j)) (fun d O W' => d = .ret ∧ Jx O W' ∧ (∀ j, j < w3.heap.size → O j → O0 j)) O0 ?hC ⟨by rw [mfS_nil]; exact HJ3.out, fun _ _ h => h⟩ ?round ?done ?stop)
  case hT =>
    have z1 := HS3.out
    have z2 := HE3.out.2.lt
    rintro j (rfl | rfl)
    · omega
    · exact z2
  case hC =>
    have z1 := HS3.out
    have z2 := HE3.out.2.lt
    have z5 := HN3.out
    have nT : ∀ j, j < w3.heap.size → O0 j → ¬ (j = w2.heap.size ∨ j = 2) := by
      intro j hj hq
      have h1 := HO0.out j hq
      rintro (rfl | rfl)
      · omega
      · exact h1.2 (by unfold MfT; simp)
    intro d
    refine ⟨?_, ?_, ?_, ?_⟩
    · rintro O s A ⟨h1, h2⟩ j hj
      exact ⟨(HC.out.lt _ _ _ h1 j hj).1, fun e => nT j (by rcases e with e | e <;> omega) (h2 j (by rcases e with e | e <;> omega) hj) e⟩
    · rintro O A ⟨_, h1, h2⟩ j hj
      exact ⟨(HC.out.ltx _ _ h1 j hj).1, fun e => nT j (by rcases e with e | e <;> omega) (h2 j (by rcases e with e | e <;> omega) hj) e⟩
    · rintro O s A B ⟨h1, h2⟩ hkk
      exact ⟨HC.out.keep _ _ _ _ h1 (hkk.mono (fun j _ e => ⟨by omega, e.2⟩)), h2⟩
    · rintro O A B ⟨h0, h1, h2⟩ hkk
      exact ⟨h0, HC.out.keepx _ _ _ h1 (hkk.mono (fun j _ e => ⟨by omega, e.2⟩)), h2⟩
  case round =>
    rintro l2 O s q args W6 hl2 ⟨rec, hrec⟩ ⟨hJ6, hO6⟩ hOl hK6 hOm hpre hG hsz6
    obtain rfl : args = #[.int .i64 (q : Nat)] := hG
    have hq64 : q < 64 := bln_lt (hpre.subset (by simp))
    obtain ⟨R6, cy6⟩ := HRK.out _ hK6
    have HPRE : Hid (mfS Z x s ++ ((inB Z x q).map fun n => (x, q, n)) <+: XS) := hide (by rw [HXS.out, ← mfS_snoc]; exact mfS_pre hpre)
    have HR6 := hide R6
    have HCY6 := hide cy6
    have HJ6 := hide hJ6
    have HO7 := hide hO6
    have HSZ6 := hide hsz6
    have HOL := hide hOl
    have HL2 := hide hl2
    have HKK6 := hide hK6
    clear hJ6 hO6 hOl hK6 hOm hpre hsz6 hrec hl2 R6 cy6
    gi_wp2
    refine ⟨Below.refl _ _, ?_⟩
    intro W7 hk7
    have z1 := HS3.out
    have z6 := HL2.out
    have z7 := HSZ6.out
    have z8 := HN3.out
    have HJ7 := hide (HC.out.keep _ _ _ _ HJ6.out (hk7.mono (fun j _ e => ⟨by omega, fun h => HOL.out (e ▸ h)⟩)))
    have lts : ∀ j, MfT sb fb b j → j < W.heap.size := HLT.out
    have HR7 := hide (HR6.out.keeps hk7 (fun j hj e => by have := lts j hj; omega))
    have HCY7 := hide (hk7.cell HCY6.out (fun e => by dsimp only at e; omega))
    have HZ7 : Hid (w3.heap.size ≤ W7.heap.size) := hide (Nat.le_trans (by omega) (Nat.le_trans HSZ6.out hk7.size))
    have HNO : Hid (¬ O sb ∧ ¬ O fb ∧ ¬ O b ∧ ¬ O 1 ∧ ¬ O W.heap.size) := hide (by
      have nn : ∀ j, MfT sb fb b j → ¬ O j := fun j hj h => (HO0.out j (HO7.out j (by have := lts j hj; omega) h)).2 hj
      exact ⟨nn sb (by unfold MfT; simp), nn fb (by unfold MfT; simp), nn b (by unfold MfT; simp), nn 1 (by unfold MfT; simp), fun h => by have := (HO0.out _ (HO7.out _ (by omega) h)).1; omega⟩)
    have c1 := HR7.out.p
    have c2 := HR7.out.o
    have HKI := hide (HKO.out W7 HR7.out.z)
    have HOE := hide (onEdge_any (q : Nat) W7)
    have HI1q := hide (HI1.out q)
    have HI2q := hide (HI2.out q)
    clear hk7 z1 z6 z7 z8 lts HJ6 HR6 HCY6 HKK6 HKO HI1 HI2
    by_cases hk1 : kd = 1
    · subst hk1
      cases hed : edge (q : Int) with
      | true =>
        have HIN := hide (HI1q.out ⟨rfl, hed⟩)
        rw [hed] at HOE
        clear HI1q HI2q hed
        gi_wp2
        refine (CallsIn.inRound l2 (callsIn_wide.2 HKI.out)).mono ?_
        rintro r w5 ⟨rfl, hw⟩
        subst w5
        gi_wp2
        refine (CallsIn.inRound l2 (callsIn_wide.2 HOE.out)).mono ?_
        rintro r w5 ⟨rfl, hw⟩
        subst w5
        clear c1 c2
        gi_wp2
        gi_loopw [7] (fun v wr => ∃ (y : Nat) (O1 : Nat → Prop), v = .int .i64 (y : Nat) ∧ (2 ≤ y ∧ y ≤ 6) ∧ Hid (J O1 (mfS Z x s ++ mi x q 2 (y - 2)) wr) ∧ Hid (∀ j, j < W7.heap.size → O1 j → O j) ∧ Hid (Keeps O W7 wr)) (fun v _ => 6 - (intOf v).toNat)
        case atStart => exact ⟨2, O, rfl, by omega, hide (by rw [Nat.sub_self, mi_zero, List.append_nil]; exact HJ7.out), hide (fun _ _ h => h), hide (Keeps.refl _ _)⟩
        case round =>
          obtain ⟨y, O1, rfl, hy6, hJr, hO1, hKr⟩ := hrel
          by_cases hy5 : y < 6
          · have hle : (y : Int) ≤ 5 := by omega
            have cyr := hKr.out.cell HCY7.out HNO.out.2.2.2.2
            have fbr := hKr.out.cell HR7.out.o HNO.out.2.1
            have HPF : Hid ((mfS Z x s ++ mi x q 2 (y - 2)) ++ [(x, q, y)] <+: XS) := hide (by
              have h1 := HPRE.out
              rw [HIN.out] at h1
              refine List.IsPrefix.trans ?_ h1
              rw [List.append_assoc, List.prefix_append_right_inj]
              have h2 := mi_pre x q 2 (show y - 2 + 1 ≤ 4 by omega)
              rw [mi_succ, show 2 + (y - 2) = y by omega] at h2
              exact h2)
            have HMS : Hid (mi x q 2 (y + 1 - 2) = mi x q 2 (y - 2) ++ [(x, q, y)]) := hide (by
              rw [show y + 1 - 2 = (y - 2) + 1 by omega, mi_succ, show 2 + (y - 2) = y by omega])
            obtain ⟨fn, tmps, assign, body, hyy, hRR⟩ := YieldAt.anyD (m' := 0) (HY.out O1 _ (x, q, y) #[.agg #[.int .i64 (x : Nat), .int .i64 (q : Nat), .int .i64 (y : Nat)]] wr hJr.out HPF.out rfl (Nat.le_trans HN3.out (Nat.le_trans HZ7.out hKr.out.size)))
            clear hJr HPF
            gi_wp2
            refine RoundIn.mono (F := Fence.wide.inRound l2) hRR ?_
            rintro e W8 ⟨hk8, O', hO', h8⟩
            have HK8 : Hid (Keeps O W7 W8) := hide (hKr.out.after hk8 (fun j hj h => hO1.out j hj h))
            have HO8 : Hid (∀ j, j < W7.heap.size → O' j → O j) := hide (fun j hj h => hO1.out j hj (hO' j (Nat.lt_of_lt_of_le hj hKr.out.size) h))
            clear hyy hRR hk8 hO' hKr hO1 cyr fbr
            rcases h8 with ⟨rfl, h8⟩ | ⟨rfl, h8⟩
            · have H8 := hide h8
              clear h8
              gi_wp2
              exact ⟨⟨y + 1, O', by go_num, by omega, hide (by rw [HMS.out, ← List.append_assoc]; exact H8.out), HO8, HK8⟩, by simp [intOf]; omega⟩
            · have H8 := hide h8
              clear h8
              gi_wp2
              exact ⟨HK8.out, O', HO8.out, rfl, H8.out, fun j hj h => HO7.out j hj (HO8.out j (by have := HZ7.out; omega) h)⟩
          · obtain rfl : y = 6 := by omega
            have HJE : Hid (J O1 (mfS Z x (s ++ [q])) wr) := hide (by rw [mfS_snoc, HIN.out]; exact hJr.out)
            clear hJr
            gi_wp2
            exact ⟨hKr.out, O1, hO1.out, HJE.out, fun j hj h => HO7.out j hj (hO1.out j (by have := HZ7.out; omega) h)⟩
      | false =>
        have HIN := hide (HI2q.out (fun hh => by rw [hed] at hh; cases hh.2))
        rw [hed] at HOE
        clear HI1q HI2q hed
        gi_wp2
        refine (CallsIn.inRound l2 (callsIn_wide.2 HKI.out)).mono ?_
        rintro r w5 ⟨rfl, hw⟩
        subst w5
        gi_wp2
        refine (CallsIn.inRound l2 (callsIn_wide.2 HOE.out)).mono ?_
        rintro r w5 ⟨rfl, hw⟩
        subst w5
        clear c1 c2
        gi_wp2
        gi_loopw [7] (fun v wr => ∃ (y : Nat) (O1 : Nat → Prop), v = .int .i64 (y : Nat) ∧ (0 ≤ y ∧ y ≤ 1) ∧ Hid (J O1 (mfS Z x s ++ mi x q 0 (y - 0)) wr) ∧ Hid (∀ j, j < W7.heap.size → O1 j → O j) ∧ Hid (Keeps O W7 wr)) (fun v _ => 1 - (intOf v).toNat)
        case atStart => exact ⟨0, O, rfl, by omega, hide (by rw [Nat.sub_self, mi_zero, List.append_nil]; exact HJ7.out), hide (fun _ _ h => h), hide (Keeps.refl _ _)⟩
        case round =>
          obtain ⟨y, O1, rfl, hy6, hJr, hO1, hKr⟩ := hrel
          rcases (show y = 0 ∨ y = 1 by omega) with rfl | rfl
          · have hle : True := trivial
            clear hle
            have cyr := hKr.out.cell HCY7.out HNO.out.2.2.2.2
            have fbr := hKr.out.cell HR7.out.o HNO.out.2.1
            have HPF : Hid ((mfS Z x s ++ mi x q 0 0) ++ [(x, q, 0)] <+: XS) := hide (by
              have h1 := HPRE.out
              rw [HIN.out] at h1
              refine List.IsPrefix.trans ?_ h1
              rw [List.append_assoc, List.prefix_append_right_inj]
              have h2 : mi x q 0 0 ++ [(x, q, 0)] <+: mi x q 0 1 := by rw [mi_succ x q 0 0]; exact List.prefix_refl _
              exact h2)
            have HMS : Hid (mi x q 0 1 = mi x q 0 0 ++ [(x, q, 0)]) := hide (mi_succ x q 0 0)
            obtain ⟨fn, tmps, assign, body, hyy, hRR⟩ := YieldAt.anyD (m' := 0) (HY.out O1 _ (x, q, 0) #[.agg #[.int .i64 (x : Nat), .int .i64 (q : Nat), .int .i64 0]] wr hJr.out HPF.out rfl (Nat.le_trans HN3.out (Nat.le_trans HZ7.out hKr.out.size)))
            clear hJr HPF
            gi_wp2
            refine RoundIn.mono (F := Fence.wide.inRound l2) hRR ?_
            rintro e W8 ⟨hk8, O', hO', h8⟩
            have HK8 : Hid (Keeps O W7 W8) := hide (hKr.out.after hk8 (fun j hj h => hO1.out j hj h))
            have HO8 : Hid (∀ j, j < W7.heap.size → O' j → O j) := hide (fun j hj h => hO1.out j hj (hO' j (Nat.lt_of_lt_of_le hj hKr.out.size) h))
            clear hyy hRR hk8 hO' hKr hO1 cyr fbr
            rcases h8 with ⟨rfl, h8⟩ | ⟨rfl, h8⟩
            · have H8 := hide h8
              clear h8
              gi_wp2
              exact ⟨⟨1, O', by rfl, by omega, hide (by rw [HMS.out, ← List.append_assoc]; exact H8.out), HO8, HK8⟩, by simp [intOf]⟩
            · have H8 := hide h8
              clear h8
              gi_wp2
              exact ⟨HK8.out, O', HO8.out, rfl, H8.out, fun j hj h => HO7.out j hj (HO8.out j (by have := HZ7.out; omega) h)⟩
          · have HJE : Hid (J O1 (mfS Z x (s ++ [q])) wr) := hide (by rw [mfS_snoc, HIN.out]; exact hJr.out)
            clear hJr
            gi_wp2
            exact ⟨hKr.out, O1, hO1.out, HJE.out, fun j hj h => HO7.out j hj (hO1.out j (by have := HZ7.out; omega) h)⟩
    · have HIN := hide (HI2q.out (fun hh => hk1 hh.1))
      have hk1' : ((kd : Int) == 1) = false := by simp; omega
      clear HI1q HI2q HOE
      gi_wp2
      refine (CallsIn.inRound l2 (callsIn_wide.2 HKI.out)).mono ?_
      rintro r w5 ⟨rfl, hw⟩
      subst w5
      clear c1 c2
      gi_wp2
      gi_loopw [7] (fun v wr => ∃ (y : Nat) (O1 : Nat → Prop), v = .int .i64 (y : Nat) ∧ (0 ≤ y ∧ y ≤ 1) ∧ Hid (J O1 (mfS Z x s ++ mi x q 0 (y - 0)) wr) ∧ Hid (∀ j, j < W7.heap.size → O1 j → O j) ∧ Hid (Keeps O W7 wr)) (fun v _ => 1 - (intOf v).toNat)
      case atStart => exact ⟨0, O, rfl, by omega, hide (by rw [Nat.sub_self, mi_zero, List.append_nil]; exact HJ7.out), hide (fun _ _ h => h), hide (Keeps.refl _ _)⟩
      case round =>
        obtain ⟨y, O1, rfl, hy6, hJr, hO1, hKr⟩ := hrel
        rcases (show y = 0 ∨ y = 1 by omega) with rfl | rfl
        · have hle : True := trivial
          clear hle
          have cyr := hKr.out.cell HCY7.out HNO.out.2.2.2.2
          have fbr := hKr.out.cell HR7.out.o HNO.out.2.1
          have HPF : Hid ((mfS Z x s ++ mi x q 0 0) ++ [(x, q, 0)] <+: XS) := hide (by
            have h1 := HPRE.out
            rw [HIN.out] at h1
            refine List.IsPrefix.trans ?_ h1
            rw [List.append_assoc, List.prefix_append_right_inj]
            have h2 : mi x q 0 0 ++ [(x, q, 0)] <+: mi x q 0 1 := by rw [mi_succ x q 0 0]; exact List.prefix_refl _
            exact h2)
          have HMS : Hid (mi x q 0 1 = mi x q 0 0 ++ [(x, q, 0)]) := hide (mi_succ x q 0 0)
          obtain ⟨fn, tmps, assign, body, hyy, hRR⟩ := YieldAt.anyD (m' := 0) (HY.out O1 _ (x, q, 0) #[.agg #[.int .i64 (x : Nat), .int .i64 (q : Nat), .int .i64 0]] wr hJr.out HPF.out rfl (Nat.le_trans HN3.out (Nat.le_trans HZ7.out hKr.out.size)))
          clear hJr HPF
          gi_wp2
          refine RoundIn.mono (F := Fence.wide.inRound l2) hRR ?_
          rintro e W8 ⟨hk8, O', hO', h8⟩
          have HK8 : Hid (Keeps O W7 W8) := hide (hKr.out.after hk8 (fun j hj h => hO1.out j hj h))
          have HO8 : Hid (∀ j, j < W7.heap.size → O' j → O j) := hide (fun j hj h => hO1.out j hj (hO' j (Nat.lt_of_lt_of_le hj hKr.out.size) h))
          clear hyy hRR hk8 hO' hKr hO1 cyr fbr
          rcases h8 with ⟨rfl, h8⟩ | ⟨rfl, h8⟩
          · have H8 := hide h8
            clear h8
            gi_wp2
            exact ⟨⟨1, O', by rfl, by omega, hide (by rw [HMS.out, ← List.append_assoc]; exact H8.out), HO8, HK8⟩, by simp [intOf]⟩
          · have H8 := hide h8
            clear h8
            gi_wp2
            exact ⟨HK8.out, O', HO8.out, rfl, H8.out, fun j hj h => HO7.out j hj (HO8.out j (by have := HZ7.out; omega) h)⟩
        · have HJE : Hid (J O1 (mfS Z x (s ++ [q])) wr) := hide (by rw [mfS_snoc, HIN.out]; exact hJr.out)
          clear hJr
          gi_wp2
          exact ⟨hKr.out, O1, hO1.out, HJE.out, fun j hj h => HO7.out j hj (hO1.out j (by have := HZ7.out; omega) h)⟩
  case done =>
    rintro D O W6 hD ⟨hJ6, hO6⟩ hk6 hm6 hKd
    have z1 := HS3.out
    have nD : ¬ O D := fun h => by have := (HO0.out _ (hm6 _ (by omega) h)).1; omega
    have HM6 : Hid (Mks O W.heap.size W6 [{ target := .collected D, args := #[] }]) := hide ((Mks.nil O W.heap.size W6).push (n := w3.heap.size) (fun Ds hd E hE => by
      cases Ds with
      | nil => cases hE
      | cons _ _ => simp at hd) (by omega) (by omega) nD hKd)
    have HJ6 : Hid (J O XS W6) := hide (by rw [HXS.out]; exact hJ6)
    have HOO : Hid (∀ j, j < W.heap.size → O j → O0 j) := hide (fun j hj h => hO6 j (by omega) h)
    have HK6 : Hid (Keeps O0 W W6) := hide ((Keeps.of_all HB3.out).trans hk6)
    have z5 := HN.out
    clear hJ6 hO6 hk6 hm6 hKd z1 nD HJ3
    go_wp2
    refine leaves_mks HM6.out (fun w9 hk9 => ?_)
    refine ⟨_, results_none rfl _ _ _, ⟨_, rfl⟩, HK6.out.after hk9 (fun i hi e => by omega), O, HOO.out, .inl (HC.out.keep _ _ _ _ HJ6.out (hk9.mono (fun j _ e => ⟨by omega, e.2⟩)))⟩
  case stop =>
    rintro d D O W6 hD ⟨rfl, hJ6, hO6⟩ hk6 hm6 hKd
    have z1 := HS3.out
    have nD : ¬ O D := fun h => by have := (HO0.out _ (hm6 _ (by omega) h)).1; omega
    have HM6 : Hid (Mks O W.heap.size W6 [{ target := .collected D, args := #[] }]) := hide ((Mks.nil O W.heap.size W6).push (n := w3.heap.size) (fun Ds hd E hE => by
      cases Ds with
      | nil => cases hE
      | cons _ _ => simp at hd) (by omega) (by omega) nD hKd)
    have HJ6 := hide hJ6
    have HOO : Hid (∀ j, j < W.heap.size → O j → O0 j) := hide (fun j hj h => hO6 j (by omega) h)
    have HK6 : Hid (Keeps O0 W W6) := hide ((Keeps.of_all HB3.out).trans hk6)
    have z5 := HN.out
    clear hJ6 hO6 hk6 hm6 hKd z1 nD HJ3
    refine wpIn_wide.2 ?_
    go_wp2
    refine leaves_mks HM6.out (fun w9 hk9 => ?_)
    refine ⟨_, results_none rfl _ _ _, ⟨_, rfl⟩, HK6.out.after hk9 (fun i hi e => by omega), O, HOO.out, .inr (HC.out.keepx _ _ _ HJ6.out (hk9.mono (fun j _ e => ⟨by omega, e.2⟩)))⟩

end Go.Proofs.YtdmlamnonbmboaaGreatDoor

namespace Go.Proofs.YtdmlamnonbmboaaGreatDoor
open Go.RowKit Go.Shelf

theorem Vb.rd64 {w : World} {b t : Nat} {L : List Int} (h : Vb w b t (ivs L)) (hl : L.length = 64) : Rd w (some ⟨b, 0, none⟩) 64 64 L :=
  ⟨hl, Nat.le_refl _, by unfold maxLen; omega, (fun e => by cases e), fun _ => ⟨b, 0, rfl, fun i hi => by rw [Nat.zero_add]; exact h.cellI (by omega)⟩⟩

set_option maxRecDepth 100000 in
set_option maxHeartbeats 4000000 in
theorem exposes_any (b : Nat) (Z : List Int) (t : Nat) (k e h f : Int) (ht : t ≤ 1) (hz : Pz Z) (x q n : Nat) (hx : x < 64) (hq : q < 64) (hn6 : n ≤ 6) (hbk : tkB Z e x q = true → bk t q < 64 ∧ (q : Int) - pci t 8 = ((bk t q : Nat) : Int))
    (K : Nat) (hK : Fst (mvZ Z t e x q n) (pc t 6) K) (w : World) (hs : Sb w b Z (t : Nat) k e h f) (hT : TabS w) :
    Calls Tryz.prog 66 #[.pointer (some ⟨b, 0, none⟩), .agg #[.int .i64 (x : Nat), .int .i64 (q : Nat), .int .i64 (n : Nat)]] w fun r w' => r = .returned (.bool (decide (atk (mvZ Z t e x q n) K (1 - t) ≠ []))) ∧ Below w.heap.size w w' := by
  have hl : (mvZ Z t e x q n).length = 64 := by rw [mvZ_len]; exact hs.1
  have HPA : Hid (∀ W, Below w.heap.size w W → Calls Tryz.prog 49 #[.pointer (some ⟨b, 0, none⟩), .agg #[.int .i64 (x : Nat), .int .i64 (q : Nat), .int .i64 (n : Nat)]] W fun r w' => r = .returned (.agg (ivs (mvZ Z t e x q n)).toArray) ∧ Below W.heap.size W w') := hide (fun W hb => placesAfter_any b Z t k e h f hz x q n hx hq hn6 hbk W (hs.mono hb))
  have HIC0 : Hid (∀ W d, Vb W d 46 (ivs (mvZ Z t e x q n)) → TabS W → Calls Tryz.prog 42 #[.slice (some ⟨d, 0, none⟩) 64 64, .int .i64 (t : Nat)] W fun r w' => r = .returned (.bool (decide (atk (mvZ Z t e x q n) K (1 - t) ≠ []))) ∧ Below W.heap.size W w') := hide (fun W d hv hT => inCheck_any _ 64 (mvZ Z t e x q n) t K ht hK W (hv.rd64 hl) hT)
  have HSB : Hid (∀ W, Below w.heap.size w W → Sb W b Z (t : Nat) k e h f ∧ TabS W) := hide (fun W hb => ⟨hs.mono hb, hT.mono hb⟩)
  obtain ⟨rr, hrr⟩ : ∃ rr, decide (atk (mvZ Z t e x q n) K (1 - t) ≠ []) = rr := ⟨_, rfl⟩
  rw [hrr] at HIC0 ⊢
  obtain ⟨M, hM⟩ : ∃ M, mvZ Z t e x q n = M := ⟨_, rfl⟩
  rw [hM] at HPA HIC0 hl
  obtain ⟨g, hg⟩ : ∃ g, w.heap.size = g := ⟨_, rfl⟩
  obtain ⟨w1, hw1⟩ : ∃ w1, w.alloc (.cells #[.int .i64 (x : Nat), .int .i64 (q : Nat), .int .i64 (n : Nat)] 32) = w1 := ⟨_, rfl⟩
  have B1 : Below g w w1 := by rw [← hw1, ← hg]; exact (Below.refl _ w).alloc (Nat.le_refl _) _
  have V1 : Vb w1 g 32 [.int .i64 (x : Nat), .int .i64 (q : Nat), .int .i64 (n : Nat)] := by rw [← hw1, ← hg]; exact Vb.new w 32 _
  have rng1 := V1.range
  have HPA1 := hide (HPA.out w1 (by rw [hg]; exact B1))
  have HB1 := hide B1
  have HG := hide hg
  clear hs hT hK hz hbk hrr hM HPA B1
  try rw [hg]
  go_enter Tryz.func66, Tryz.ntmps66
  go_upto_region 1 with fail
  try rw [hg]
  clear hw1
  go_wp2_with (refine wpList_load_mid rfl 32 _ rfl g 0 rfl [.int .i64 (x : Nat), .int .i64 (q : Nat), .int .i64 (n : Nat)] _ rng1 Tryz.underlying32 rfl size26 ?_)
  refine HPA1.out.mono ?_
  rintro r w2 ⟨rfl, hb2⟩
  have HB2 : Hid (Below g w w2) := hide (HB1.out.trans (hb2.mono (Nat.le_trans (Nat.le_of_eq HG.out.symm) HB1.out.size)))
  clear hb2 V1 rng1 HPA1
  obtain ⟨d, hd⟩ : ∃ d, w2.heap.size = d := ⟨_, rfl⟩
  obtain ⟨w3, hw3⟩ : ∃ w3, w2.alloc (.cells #[.int .i64 0, .int .i64 0, .int .i64 0, .int .i64 0, .int .i64 0, .int .i64 0, .int .i64 0, .int .i64 0, .int .i64 0, .int .i64 0, .int .i64 0, .int .i64 0, .int .i64 0, .int .i64 0, .int .i64 0, .int .i64 0, .int .i64 0, .int .i64 0, .int .i64 0, .int .i64 0, .int .i64 0, .int .i64 0, .int .i64 0, .int .i64 0, .int .i64 0, .int .i64 0, .int .i64 0, .int .i64 0, .int .i64 0, .int .i64 0, .int .i64 0, .int .i64 0, .int .i64 0, .int .i64 0, .int .i64 0, .int .i64 0, .int .i64 0, .int .i64 0, .int .i64 0, .int .i64 0, .int .i64 0, .int .i64 0, .int .i64 0, .int .i64 0, .int .i64 0, .int .i64 0, .int .i64 0, .int .i64 0, .int .i64 0, .int .i64 0, .int .i64 0, .int .i64 0, .int .i64 0, .int .i64 0, .int .i64 0, .int .i64 0, .int .i64 0, .int .i64 0, .int .i64 0, .int .i64 0, .int .i64 0, .int .i64 0, .int .i64 0, .int .i64 0] 46) = w3 := ⟨_, rfl⟩
  have B3 : Below d w2 w3 := by rw [← hw3, ← hd]; exact (Below.refl _ _).alloc (Nat.le_refl _) _
  have V3 : Vb w3 d 46 (ivs zr64) := by rw [← hw3, ← hd]; exact zr64_new w2
  have HB3 := hide B3
  have HD := hide hd
  clear B3
  go_upto_region 2 with (refine wpList_store_pl rfl (.tmp 5) (.tmp 8) rfl d hl (by simp [Act.eval]) rfl zr64_len V3 ?_; intro w4 L4 K4)
  have B4 : Below d w2 w4 := HB3.out.trans (K4.below (Nat.le_trans (by rw [HD.out]; exact Nat.le_refl _) HB3.out.size) (fun j hj e => by omega))
  have B4g : Below g w w4 := HB2.out.trans (B4.mono (by rw [← HD.out, ← HG.out]; exact HB2.out.size))
  have hwg : Below w.heap.size w w4 := by rw [hg]; exact B4g
  have HS4 : Hid (∀ W, Below w4.heap.size w4 W → Sb W b Z (t : Nat) k e h f) := hide (fun W hb => ((HSB.out w4 hwg).1).mono hb)
  have HIC : Hid (∀ W, Below w4.heap.size w4 W → Calls Tryz.prog 42 #[.slice (some ⟨d, 0, none⟩) 64 64, .int .i64 (t : Nat)] W fun r w' => r = .returned (.bool rr) ∧ Below W.heap.size W w') := hide (fun W hb => HIC0.out W d (L4.mono hb) ((HSB.out w4 hwg).2.mono hb))
  have HB4 := hide B4g
  clear B4 B4g hwg K4 L4 V3 hw3 hd HSB HIC0
  refine wp_region_held (S := fun W5 => Below w4.heap.size w4 W5) (by kernel_rfl) ?_
  change wpAnyH _ _ _ _ _ _ _ _ (World.drew _)
  have SW : (fun W5 => Below w4.heap.size w4 W5) w4.drew := (Below.refl _ _).drew
  refine wpAnyH_take (i := 0) (v := .slice (some ⟨d, 0, none⟩) 64 64) rfl (by kernel_rfl) (by kernel_rfl) (by kernel_rfl) (fun _ _ _ h => h) (Or.inl ⟨by rfl, ?_⟩) SW ?_
  · intro W5 hW5
    go_simp <;> first | done | rfl | (rw [IntKind.wrap_i64]; omega) | omega
  go_simp
  refine wpAnyH_take (i := 1) (v := .pointer (some ⟨b, 0, none⟩)) rfl (by kernel_rfl) (by kernel_rfl) (by kernel_rfl) (fun _ _ _ h => h) (Or.inl ⟨by rfl, ?_⟩) SW ?_
  · intro W5 hW5
    go_simp <;> first | done | rfl | (rw [IntKind.wrap_i64]; omega) | omega
  go_simp
  refine wpAnyH_take (i := 2) (v := .pointer (some ⟨b, 0, none⟩)) rfl (by kernel_rfl) (by kernel_rfl) (by kernel_rfl) (fun _ _ _ h => h) (Or.inl ⟨by rfl, ?_⟩) SW ?_
  · intro W5 hW5
    go_simp <;> first | done | rfl | (rw [IntKind.wrap_i64]; omega) | omega
  go_simp
  refine wpAnyH_take (i := 3) (v := .pointer (some ⟨b, 64, none⟩)) rfl (by kernel_rfl) (by kernel_rfl) (by kernel_rfl) (fun _ _ _ h => h) (Or.inl ⟨by rfl, ?_⟩) SW ?_
  · intro W5 hW5
    go_simp <;> first | done | rfl | (rw [IntKind.wrap_i64]; omega) | omega
  go_simp
  refine wpAnyH_take (i := 4) (v := .int .i64 (t : Nat)) rfl (by kernel_rfl) (by kernel_rfl) (by kernel_rfl) (fun _ _ _ h => h) (Or.inl ⟨by rfl, ?_⟩) SW ?_
  · intro W5 hW5
    have y0 := (HS4.out W5 hW5).ends.1
    go_simp <;> first | done | rfl | (rw [IntKind.wrap_i64]; omega) | omega
  go_simp
  generalize w4.drew = wd at *
  refine wpAnyH_ready (rs := [5]) (by kernel_rfl) (by simp) ?_
  refine AllReadyH.cons rfl (fun K1 hK1 => ?_) AllReadyH.nil
  go_simp
  refine (HIC.out wd SW).mono ?_
  rintro r w5 ⟨rfl, hb5⟩
  refine hK1.out _ _ (SW.trans (hb5.mono SW.size)) (fun SW => ?_)
  clear hK1 K1 hb5
  go_simp
  refine wpAnyH_take (i := 6) (v := .bool rr) rfl (by kernel_rfl) (by kernel_rfl) (by kernel_rfl) (fun _ _ _ h => h) (Or.inl ⟨by rfl, ?_⟩) SW ?_
  · intro W5 hW5
    go_simp <;> first | done | rfl | (rw [IntKind.wrap_i64]; omega) | omega
  go_simp
  refine wpAnyH_done (by kernel_rfl) ?_ _
  go_wp2_with fail
  go_ret
  exact ⟨rfl, HB4.out.trans (SW.mono (Nat.le_trans (Nat.le_of_eq HG.out.symm) HB4.out.size))⟩

end Go.Proofs.YtdmlamnonbmboaaGreatDoor
