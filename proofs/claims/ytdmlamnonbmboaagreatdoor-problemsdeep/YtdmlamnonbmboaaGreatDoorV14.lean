/-
  Chess: what attackers hands out, walked. No conditions beyond those that each theorem bears.
-/
import Derived.Test.YtdmlamnonbmboaaGreatDoorV13
namespace Go.Proofs.YtdmlamnonbmboaaGreatDoor
open Go.RowKit Go.Shelf

theorem filter_snoc (p : Nat → Bool) (s : List Nat) (q : Nat) : (s ++ [q]).filter p = s.filter p ++ (if p q = true then [q] else []) := by
  rw [List.filter_append]
  by_cases h : p q = true <;> simp [h]

theorem filter_pre {p : Nat → Bool} {s L : List Nat} (h : s <+: L) : s.filter p <+: L.filter p := by
  obtain ⟨r, rfl⟩ := h
  rw [List.filter_append]; exact List.prefix_append _ _

/-- What the region of a round reads. -/
def AkS (lb zb zo q pb yb l c : Nat) (z P : Int) (W : World) : Prop := W.cell? ⟨lb, 0, none⟩ = some (.slice (some ⟨zb, zo, none⟩) 64 c) ∧ W.cell? ⟨zb, zo + q, none⟩ = some (.int .i64 z) ∧ W.cell? ⟨pb, 0, none⟩ = some (.int .i64 P) ∧ W.cell? ⟨yb, 0, none⟩ = some (.func (.yield l) #[] #[])

theorem AkS.keeps {lb zb zo q pb yb l c : Nat} {z P : Int} {X : Nat → Prop} {W W' : World} (h : AkS lb zb zo q pb yb l c z P W) (hk : Keeps X W W') (h1 : ¬ X lb) (h2 : ¬ X zb) (h3 : ¬ X pb) (h4 : ¬ X yb) : AkS lb zb zo q pb yb l c z P W' :=
  ⟨hk.cell h.1 h1, hk.cell h.2.1 h2, hk.cell h.2.2.1 h3, hk.cell h.2.2.2 h4⟩

attribute [local irreducible] rch atU atk pc
attribute [local go_sem] Oper.semAt_some wide_fn wide_fn0 wide_depth

set_option maxRecDepth 100000 in
set_option maxHeartbeats 16000000 in
theorem attackers2_seq (bb ab eb lb b t : Nat) (a : Option Addr) (c : Nat) (Z : List Int) (ht : t < 64) :
    SeqO Tryz.prog 137 #[.pointer (some ⟨bb, 0, none⟩), .pointer (some ⟨ab, 0, none⟩), .pointer (some ⟨eb, 0, none⟩), .pointer (some ⟨lb, 0, none⟩)] RcG (atk Z t b) (AkR bb ab eb lb b t a c Z) (AkT bb ab eb lb a) := by
  intro l J Jx N0 W O0 hR hN hC hY h0
  have hOlt := hC.lt _ _ _ h0
  have HLT := hide hR.lt
  have HO0 : Hid (∀ k, O0 k → k < W.heap.size ∧ ¬ AkT bb ab eb lb a k) := hide hOlt
  have HC := hide hC
  have HY := hide hY
  have HN := hide hN
  obtain ⟨zb, zo, rfl, -⟩ := hR.z.cells (by omega)
  have HPO := hide (fun k (hk : k ≤ 6) w => pieceOf_any b k hk w)
  have HRA := hide (fun x w => reach_any x t lb w)
  have HSQ := hide (fun xb fb eb' x (hx : KX x) => reach1_seq xb fb eb' lb x t (some ⟨zb, zo, none⟩) c Z hx ht)
  have HKX : Hid (∀ k, k < 6 → KX (-(pc b (k + 1)))) := hide (fun k hk => KX_neg (pc_kx hk))
  have HQL : Hid (∀ k, k < 6 → ∀ q ∈ rch Z (-(pc b (k + 1))) t, q < 64) := hide (fun k hk => rch_lt (KX_neg (pc_kx hk)) ht)
  have HAL : Hid (atU Z t b 6 = atk Z t b) := hide (atU_all Z t b)
  obtain ⟨XS, hXS⟩ : ∃ XS, atk Z t b = XS := ⟨_, rfl⟩
  rw [hXS] at HY HAL ⊢
  clear hXS
  have HPX : Hid (∀ k, k ≤ 6 → atU Z t b k <+: XS) := hide (fun k hk => by rw [← HAL.out]; exact atU_pre Z t b hk)
  have HUS : Hid (∀ k, atU Z t b (k + 1) = atU Z t b k ++ (rch Z (-(pc b (k + 1))) t).filter (fun q => zg Z q == pc b (k + 1))) := hide (atU_succ Z t b)
  have HPB : Hid (∀ k, k < 6 → -6 ≤ pc b (k + 1) ∧ pc b (k + 1) ≤ 6) := hide (fun k hk => by have := pc_kx (b := b) hk; unfold KX at this; omega)
  obtain ⟨W1, hW1⟩ : ∃ W1, W.alloc (.cells #[.func (.yield l) #[] #[]] 73) = W1 := ⟨_, rfl⟩
  have B1 : Below W.heap.size W W1 := by rw [← hW1]; exact (Below.refl _ _).alloc (Nat.le_refl _) _
  have s1 : W1.heap.size = W.heap.size + 1 := by rw [← hW1]; simp
  have cy : W1.cell? ⟨W.heap.size, 0, none⟩ = some (.func (.yield l) #[] #[]) := by rw [← hW1]; exact new_cell W _ 73
  have R1 : AkR bb ab eb lb b t (some ⟨zb, zo, none⟩) c Z W1 := hR.keeps (X := fun _ => False) (Keeps.of_all B1) (fun _ _ e => e)
  have HJ1 : Hid (J O0 (atU Z t b 0) W1) := hide (by unfold atU; exact hC.keep _ _ _ _ h0 (Keeps.of_all B1))
  have HB1 := hide B1
  have HS1 := hide s1
  have HCY := hide cy
  have HR1 := hide R1
  have HRK : Hid (∀ W', Keeps O0 W1 W' → AkR bb ab eb lb b t (some ⟨zb, zo, none⟩) c Z W' ∧ W'.cell? ⟨W.heap.size, 0, none⟩ = some (.func (.yield l) #[] #[])) := hide (fun W' hk => ⟨HR1.out.keeps hk (fun k hk2 h => (HO0.out k h).2 hk2), hk.cell HCY.out (fun h => by have := (HO0.out _ h).1; dsimp only at this; omega)⟩)
  clear hR hN hC hY h0 hOlt B1 s1 cy R1
  refine callsIn_of_wp_marks Tryz.func137 rfl trivial ?_ rfl
  simp only [Tryz.ntmps137, List.size_toArray, List.length_cons, List.length_nil, Nat.reduceAdd, Nat.reduceSub, Array.replicate_succ, Array.replicate_zero, List.push_toArray, List.append_toArray, List.nil_append, List.cons_append]
  refine wpIn_wide.2 ?_
  go_upto_region 1 with fail
  clear hW1
  go_wp2_with fail
  refine wp_loop (fun a' wr => ∃ (v0 v6 v7 v8 v9 v10 v11 v12 v13 v14 v15 v16 v17 v18 v19 v20 v21 v22 v23 v24 v25 v26 v27 v28 v29 v30 v31 v32 v33 : Value) (ds : List Deferred) (k : Nat) (O1 : Nat → Prop), (v6 = .int .i64 ((k + 1 : Nat) : Int) ∧ k ≤ 6 ∧ Hid (J O1 (atU Z t b k) wr) ∧ Hid (∀ q, q < W1.heap.size → O1 q → O0 q) ∧ Hid (Mks O1 W.heap.size wr ds) ∧ Hid (Keeps O0 W1 wr)) ∧ a' = { tmps := #[v0, .pointer (some ⟨bb, 0, none⟩), .pointer (some ⟨ab, 0, none⟩), .pointer (some ⟨eb, 0, none⟩), .pointer (some ⟨lb, 0, none⟩), .pointer (some ⟨W.heap.size, 0, none⟩), v6, v7, v8, v9, v10, v11, v12, v13, v14, v15, v16, v17, v18, v19, v20, v21, v22, v23, v24, v25, v26, v27, v28, v29, v30, v31, v32, v33], defers := ds }) (fun a' _ => 8 - (intOf (a'.tmps.getD 6 undef)).toNat) ?start ?round
  case start =>
    refine ⟨_, _, _, _, _, _, _, _, _, _, _, _, _, _, _, _, _, _, _, _, _, _, _, _, _, _, _, _, _, [], 0, O0, ⟨rfl, by omega, HJ1, hide (fun _ _ h => h), hide (Mks.nil _ _ _), hide (Keeps.refl _ _)⟩, rfl⟩
  case round =>
    rintro a0 wr ⟨v0, v6, v7, v8, v9, v10, v11, v12, v13, v14, v15, v16, v17, v18, v19, v20, v21, v22, v23, v24, v25, v26, v27, v28, v29, v30, v31, v32, v33, ds, k, O1, ⟨rfl, hk6, hJr, hO1, hMk, hK⟩, rfl⟩
    clear HJ1
    obtain ⟨RR, cy⟩ := HRK.out _ hK.out
    have HO1L := hide (HC.out.lt _ _ _ hJr.out)
    by_cases hk : k < 6
    · have hk' : ((k + 1 : Nat) : Int) ≤ 6 := by omega
      have HPC := hide (HPO.out (k + 1) (by omega))
      obtain ⟨P, hP⟩ : ∃ P, pc b (k + 1) = P := ⟨_, rfl⟩
      have HUK := hide (HUS.out k)
      have HPXK := hide (HPX.out (k + 1) (by omega))
      have hpb := HPB.out k hk
      have hkx := HKX.out k hk
      have HQK := hide (HQL.out k hk)
      rw [hP] at HPC HUK hpb hkx HQK
      clear hP HPO HUS HPX HPB HKX HQL
      obtain ⟨w1, hw1⟩ : ∃ w1, wr.alloc (.cells #[.int .i64 P] 3) = w1 := ⟨_, rfl⟩
      have B2 : Below wr.heap.size wr w1 := by rw [← hw1]; exact (Below.refl _ _).alloc (Nat.le_refl _) _
      have s2 : w1.heap.size = wr.heap.size + 1 := by rw [← hw1]; simp
      have cp : w1.cell? ⟨wr.heap.size, 0, none⟩ = some (.int .i64 P) := by rw [← hw1]; exact new_cell wr _ 3
      have R2 := RR.keeps (X := fun _ => False) (Keeps.of_all B2) (fun _ _ e => e)
      have ct := R2.t
      have ce := R2.e
      have cbb := RR.b
      have HR2 := hide R2
      have HB2 := hide B2
      have HS2 := hide s2
      have HCP := hide cp
      clear RR R2 B2 s2
      go_upto_region 5 with (refine (HPC.out _).mono ?_; rintro e w5 ⟨rfl, hw⟩; subst w5)
      clear hw1
      go_wp2_with fail
      refine (HRA.out _ _).mono ?_
      rintro e w3 ⟨rfl, hw3⟩
      have R3 := RcR.new (-P) t HR2.out.l HR2.out.z HR2.out.s
      rw [← hw3] at R3
      have B3 : Below w1.heap.size w1 w3 := by
        rw [hw3]; exact (((Below.refl w1.heap.size w1).alloc (Nat.le_refl _) _).alloc (by simp) _).alloc (by simp; omega) _
      have s3 : w3.heap.size = w1.heap.size + 3 := by rw [hw3]; simp
      have B13 : Below wr.heap.size wr w3 := HB2.out.trans (B3.mono HB2.out.size)
      have HCP3 := hide ((B3.cell (p := ⟨wr.heap.size, 0, none⟩) (World.block_lt_of_cell? w1 _ HCP.out)).trans HCP.out)
      have HR3 := hide R3
      have HS3 := hide s3
      have HB13 := hide B13
      have HK3 : Hid (Keeps O0 W1 w3) := hide (hK.out.trans (Keeps.of_all B13))
      have HJ3 : Hid (J O1 (atU Z t b k) w3) := hide (HC.out.keep _ _ _ _ hJr.out (Keeps.of_all B13))
      have HM3 : Hid (Mks O1 W.heap.size w3 ds) := hide (hMk.out.keeps (X := fun _ => False) (Keeps.of_all B13) (fun _ _ _ e => e) (fun _ _ h => h))
      have HMO := hide hMk.out.old
      have HKX := hide hkx
      clear hw3 B3 s3 B13 R3 hJr hMk hK cp ct ce cbb cy HR2 hkx
      go_wp2_with fail
      refine (wpIn_wide (n := 1)).1 (wp_range_o (gf := 111) (lb := #[.pointer (some ⟨w1.heap.size, 0, none⟩), .pointer (some ⟨w1.heap.size + 1, 0, none⟩), .pointer (some ⟨w1.heap.size + 2, 0, none⟩)]) (G := RcG) (xs := rch Z (-P) t) (R := RcR w1.heap.size (w1.heap.size + 1) (w1.heap.size + 2) lb (-P) t (some ⟨zb, zo, none⟩) c Z) (T := RcT w1.heap.size (w1.heap.size + 1) (w1.heap.size + 2) lb (some ⟨zb, zo, none⟩)) (by simp [Act.eval]) (enters_of Tryz.func111 (by kernel_rfl) rfl)
        (HSQ.out w1.heap.size (w1.heap.size + 1) (w1.heap.size + 2) (-P) HKX.out) ?hT (fun A hA => HR3.out.keeps (X := fun _ => False) (Keeps.of_all hA) (fun _ _ e => e)) (fun x args W' hG => by rw [hG]; rfl)
        (fun O s W' => J O (atU Z t b k ++ s.filter (fun q => zg Z q == P)) W' ∧ (∀ q, q < w3.heap.size → O q → O1 q)) (fun d O W' => d = .ret ∧ Jx O W' ∧ (∀ q, q < w3.heap.size → O q → O1 q)) O1 ?hC ⟨by rw [List.filter_nil, List.append_nil]; exact HJ3.out, fun _ _ h => h⟩ ?round ?done ?stop)
      case hT =>
        have z1 := HS3.out
        have z2 := HLT.out
        have z3 := HB1.out.size
        have z4 := HB13.out.size
        have z5 := HK3.out.size
        rintro q (rfl | rfl | rfl | rfl | rfl | ⟨off, e⟩)
        · have := z2 1 (by unfold AkT; simp); omega
        · omega
        · omega
        · omega
        · have := z2 q (by unfold AkT; simp); omega
        · have := z2 q (by unfold AkT; simp at e ⊢; simp [e.1]); omega
      case hC =>
        have z1 := HS3.out
        have z2 := HS2.out
        have z5 : N0 ≤ w3.heap.size := Nat.le_trans HN.out (by have := HB1.out.size; have := HK3.out.size; omega)
        have nT : ∀ q, O1 q → ¬ RcT w1.heap.size (w1.heap.size + 1) (w1.heap.size + 2) lb (some ⟨zb, zo, none⟩) q := by
          intro q hq
          have h1 := HO1L.out q hq
          rintro (rfl | rfl | rfl | rfl | rfl | ⟨off, e⟩)
          · exact h1.2 (by unfold AkT; simp)
          · have := h1.1; omega
          · have := h1.1; omega
          · have := h1.1; omega
          · exact h1.2 (by unfold AkT; simp)
          · exact h1.2 (by unfold AkT; simp at e ⊢; simp [e.1])
        have tlt : ∀ q, RcT w1.heap.size (w1.heap.size + 1) (w1.heap.size + 2) lb (some ⟨zb, zo, none⟩) q → q < w3.heap.size := by
          have z2 := HLT.out
          have z3 := HB1.out.size
          have z4 := HK3.out.size
          rintro q (rfl | rfl | rfl | rfl | rfl | ⟨off, e⟩)
          · have := z2 1 (by unfold AkT; simp); omega
          · omega
          · omega
          · omega
          · have := z2 q (by unfold AkT; simp); omega
          · have := z2 q (by unfold AkT; simp at e ⊢; simp [e.1]); omega
        intro d
        refine ⟨?_, ?_, ?_, ?_⟩
        · rintro O s A ⟨h1, h2⟩ q hq
          exact ⟨(HC.out.lt _ _ _ h1 q hq).1, fun e => nT q (h2 q (tlt q e) hq) e⟩
        · rintro O A ⟨_, h1, h2⟩ q hq
          exact ⟨(HC.out.ltx _ _ h1 q hq).1, fun e => nT q (h2 q (tlt q e) hq) e⟩
        · rintro O s A B ⟨h1, h2⟩ hkk
          exact ⟨HC.out.keep _ _ _ _ h1 (hkk.mono (fun q _ e => ⟨by omega, e.2⟩)), h2⟩
        · rintro O A B ⟨h0, h1, h2⟩ hkk
          exact ⟨h0, HC.out.keepx _ _ _ h1 (hkk.mono (fun q _ e => ⟨by omega, e.2⟩)), h2⟩
      case round =>
        rintro l2 O s q args W6 hl2 ⟨rec, hrec⟩ ⟨hJ6, hO6⟩ hOl hK6 hOm hpre hG hsz6
        obtain rfl : args = #[.int .i64 (q : Nat)] := hG
        have hq64 : q < 64 := HQK.out q (hpre.subset (by simp))
        have z1 := HS3.out
        have z2 := HS2.out
        obtain ⟨R3a, cy3⟩ := HRK.out _ HK3.out
        have SA : AkS lb zb zo q wr.heap.size W.heap.size l c (zg Z q) P w3 := by
          refine ⟨R3a.l, ?_, HCP3.out, cy3⟩
          obtain ⟨b', o', e, hc⟩ := R3a.z.cells (by omega)
          simp only [Option.some.injEq, Addr.mk.injEq, and_true] at e
          obtain ⟨rfl, rfl⟩ := e
          exact hc q hq64
        have nO : ¬ O1 lb ∧ ¬ O1 zb ∧ ¬ O1 wr.heap.size ∧ ¬ O1 W.heap.size := by
          refine ⟨fun h => (HO1L.out _ h).2 (by unfold AkT; simp), fun h => (HO1L.out _ h).2 (by unfold AkT; simp), fun h => by have := (HO1L.out _ h).1; omega, fun h => ?_⟩
          have := (HO0.out _ (hO1.out _ (by have := HS1.out; omega) h)).1
          omega
        have lts : lb < w3.heap.size ∧ zb < w3.heap.size ∧ wr.heap.size < w3.heap.size ∧ W.heap.size < w3.heap.size := ⟨World.block_lt_of_cell? w3 _ SA.1, World.block_lt_of_cell? w3 _ SA.2.1, by omega, World.block_lt_of_cell? w3 _ SA.2.2.2⟩
        have S6 := SA.keeps hK6 nO.1 nO.2.1 nO.2.2.1 nO.2.2.2
        have HNO : Hid (¬ O lb ∧ ¬ O zb ∧ ¬ O wr.heap.size ∧ ¬ O W.heap.size) := hide ⟨fun h => nO.1 (hO6 _ lts.1 h), fun h => nO.2.1 (hO6 _ lts.2.1 h), fun h => nO.2.2.1 (hO6 _ lts.2.2.1 h), fun h => nO.2.2.2 (hO6 _ lts.2.2.2 h)⟩
        have HS6 := hide S6
        have HJ6 := hide hJ6
        have HO6 := hide hO6
        have HSZ6 := hide hsz6
        have HOL := hide hOl
        have HL2 := hide hl2
        have HLTS := hide lts
        have HPRE : Hid ((s ++ [q]).filter (fun q => zg Z q == P) <+: (rch Z (-P) t).filter (fun q => zg Z q == P)) := hide (filter_pre hpre)
        have HN3 : Hid (N0 ≤ w3.heap.size) := hide (Nat.le_trans HN.out (by have := HB1.out.size; have := HK3.out.size; omega))
        clear hJ6 hO6 hOl hK6 hOm hpre hsz6 hrec hl2 R3a cy3 SA nO lts S6 z1 z2
        obtain ⟨z, hz⟩ : ∃ z, zg Z q = z := ⟨_, rfl⟩
        have HZ := hide hz
        rw [hz] at HS6
        clear hz
        gi_wp2
        refine ⟨Below.refl _ _, ?_⟩
        intro W7 hk7
        have z6 := HL2.out
        have z7 := HSZ6.out
        have z8 := HN3.out
        have z9 := HLTS.out
        have HJ7 := hide (HC.out.keep _ _ _ _ HJ6.out (hk7.mono (fun k _ e => ⟨by omega, fun h => HOL.out (e ▸ h)⟩)))
        have HS7 : Hid (AkS lb zb zo q wr.heap.size W.heap.size l c z P W7) := hide (HS6.out.keeps hk7 (by omega) (by omega) (by omega) (by omega))
        have HZ7 : Hid (w3.heap.size + 2 ≤ W7.heap.size) := hide (Nat.le_trans HSZ6.out hk7.size)
        clear hk7 z6 z7 z8 z9 HJ6 HS6
        gi_wp2
        refine AnyR.region (S := AkS lb zb zo q wr.heap.size W.heap.size l c z P) (by kernel_rfl) ?_
        change AnyR _ _ _ _ _ _ _ _ _ _ (World.drew _)
        have SW : AkS lb zb zo q wr.heap.size W.heap.size l c z P W7.drew := HS7.out
        refine AnyR.take (by kernel_rfl) (i := 0) (v := .slice (some ⟨zb, zo, none⟩) 64 c) rfl (by kernel_rfl) (by kernel_rfl) (by kernel_rfl) (fun _ _ _ h => h) (Or.inl ⟨by rfl, ?_⟩) SW ?_
        · intro W5 hW5
          have x0 := hW5.1
          go_simp <;> first | done | rfl | (rw [IntKind.wrap_i64]; omega) | omega
        go_simp
        refine AnyR.take (by kernel_rfl) (i := 1) (v := .int .i64 (q : Nat)) rfl (by kernel_rfl) (by kernel_rfl) (by kernel_rfl) (fun _ _ _ h => h) (Or.inl ⟨by rfl, ?_⟩) SW ?_
        · intro W5 hW5
          go_simp <;> first | done | rfl | (rw [IntKind.wrap_i64]; omega) | omega
        go_simp
        refine AnyR.take (by kernel_rfl) (i := 2) (v := .pointer (some ⟨zb, zo + q, none⟩)) rfl (by kernel_rfl) (by kernel_rfl) (by kernel_rfl) (fun _ _ _ h => h) (Or.inl ⟨by rfl, ?_⟩) SW ?_
        · intro W5 hW5
          go_simp <;> first | done | rfl | (rw [IntKind.wrap_i64]; omega) | omega
        go_simp
        refine AnyR.take (by kernel_rfl) (i := 3) (v := .int .i64 z) rfl (by kernel_rfl) (by kernel_rfl) (by kernel_rfl) (fun _ _ _ h => h) (Or.inl ⟨by rfl, ?_⟩) SW ?_
        · intro W5 hW5
          have x0 := hW5.2.1
          go_simp <;> first | done | rfl | (rw [IntKind.wrap_i64]; omega) | omega
        go_simp
        refine AnyR.take (by kernel_rfl) (i := 4) (v := .int .i64 P) rfl (by kernel_rfl) (by kernel_rfl) (by kernel_rfl) (fun _ _ _ h => h) (Or.inl ⟨by rfl, ?_⟩) SW ?_
        · intro W5 hW5
          have x0 := hW5.2.2.1
          go_simp <;> first | done | rfl | (rw [IntKind.wrap_i64]; omega) | omega
        go_simp
        by_cases hzP : z = P
        · subst hzP
          refine AnyR.take (by kernel_rfl) (i := 5) (v := .bool true) rfl (by kernel_rfl) (by kernel_rfl) (by kernel_rfl) (fun _ _ _ h => h) (Or.inl ⟨by rfl, ?_⟩) SW ?_
          · intro W5 hW5
            go_simp <;> first | done | rfl | (rw [IntKind.wrap_i64]; omega) | omega
          go_simp
          refine AnyR.take (by kernel_rfl) (i := 6) (v := .bool true) rfl (by kernel_rfl) (by kernel_rfl) (by kernel_rfl) (fun _ _ _ h => h) (Or.inl ⟨by rfl, ?_⟩) SW ?_
          · intro W5 hW5
            go_simp <;> first | done | rfl | (rw [IntKind.wrap_i64]; omega) | omega
          go_simp
          refine AnyR.take (by kernel_rfl) (i := 7) (v := .func (.yield l) #[] #[]) rfl (by kernel_rfl) (by kernel_rfl) (by kernel_rfl) (fun _ _ _ h => h) (Or.inl ⟨by rfl, ?_⟩) SW ?_
          · intro W5 hW5
            have x0 := hW5.2.2.2
            go_simp <;> first | done | rfl | (rw [IntKind.wrap_i64]; omega) | omega
          go_simp
          refine AnyR.take (by kernel_rfl) (i := 8) (v := .int .i64 (q : Nat)) rfl (by kernel_rfl) (by kernel_rfl) (by kernel_rfl) (fun _ _ _ h => h) (Or.inl ⟨by rfl, ?_⟩) SW ?_
          · intro W5 hW5
            go_simp <;> first | done | rfl | (rw [IntKind.wrap_i64]; omega) | omega
          go_simp
          refine AnyR.one (i := 9) (by kernel_rfl) rfl (by rfl) ?_
          intro K1 hK1
          have HPF : Hid ((atU Z t b k ++ s.filter (fun q => zg Z q == z)) ++ [q] <+: XS) := hide (by
            refine List.IsPrefix.trans ?_ HPXK.out
            rw [HUK.out, List.append_assoc, List.prefix_append_right_inj]
            have h := HPRE.out
            rw [filter_snoc, if_pos (by rw [HZ.out]; simp)] at h
            exact h)
          refine AnyR.yields rfl rfl rfl (HY.out O _ q _ W7.drew (HC.out.keep _ _ _ _ HJ7.out (Keeps.refl _ W7).drew) HPF.out rfl (Nat.le_trans HN3.out (by have := HZ7.out; show w3.heap.size ≤ W7.heap.size; omega))) ?_
          rintro e w8 ⟨hk8, O', hO', h8⟩
          have S8 := SW.keeps hk8 HNO.out.1 HNO.out.2.1 HNO.out.2.2.1 HNO.out.2.2.2
          have HK8 : Hid (Keeps O W7 w8) := hide ((Keeps.refl O W7).drew.trans hk8)
          have HM8 : Hid (∀ k, k < W7.heap.size → O' k → O k) := hide hO'
          have HO8 : Hid (∀ q, q < w3.heap.size → O' q → O1 q) := hide (fun q hq h => HO6.out q hq (HM8.out q (by have := HZ7.out; omega) h))
          clear hk8 hO' HPF
          rcases h8 with ⟨rfl, h8⟩ | ⟨rfl, h8⟩
          · refine ⟨_, rfl, hK1.out _ _ S8 (fun SW => ?_)⟩
            clear hK1 K1
            have H8 := hide h8
            clear h8 S8
            go_simp
            refine AnyR.take (by kernel_rfl) (i := 10) (v := .bool false) rfl (by kernel_rfl) (by kernel_rfl) (by kernel_rfl) (fun _ _ _ h => h) (Or.inl ⟨by rfl, ?_⟩) SW ?_
            · intro W5 hW5
              go_simp <;> first | done | rfl | (rw [IntKind.wrap_i64]; omega) | omega
            go_simp
            refine AnyR.take (by kernel_rfl) (i := 11) (v := .bool false) rfl (by kernel_rfl) (by kernel_rfl) (by kernel_rfl) (fun _ _ _ h => h) (Or.inl ⟨by rfl, ?_⟩) SW ?_
            · intro W5 hW5
              go_simp <;> first | done | rfl | (rw [IntKind.wrap_i64]; omega) | omega
            go_simp
            refine AnyR.done (by kernel_rfl) ?_ _
            clear SW
            gi_wp2
            exact ⟨HK8.out, O', HM8.out, by rw [filter_snoc, if_pos (by rw [HZ.out]; simp), ← List.append_assoc]; exact H8.out, HO8.out⟩
          · refine ⟨_, rfl, hK1.out _ _ S8 (fun SW => ?_)⟩
            clear hK1 K1
            have H8 := hide h8
            clear h8 S8
            go_simp
            refine AnyR.take (by kernel_rfl) (i := 10) (v := .bool true) rfl (by kernel_rfl) (by kernel_rfl) (by kernel_rfl) (fun _ _ _ h => h) (Or.inl ⟨by rfl, ?_⟩) SW ?_
            · intro W5 hW5
              go_simp <;> first | done | rfl | (rw [IntKind.wrap_i64]; omega) | omega
            go_simp
            refine AnyR.take (by kernel_rfl) (i := 11) (v := .bool true) rfl (by kernel_rfl) (by kernel_rfl) (by kernel_rfl) (fun _ _ _ h => h) (Or.inl ⟨by rfl, ?_⟩) SW ?_
            · intro W5 hW5
              go_simp <;> first | done | rfl | (rw [IntKind.wrap_i64]; omega) | omega
            go_simp
            refine AnyR.done (by kernel_rfl) ?_ _
            clear SW
            gi_wp2
            exact ⟨HK8.out, O', HM8.out, rfl, H8.out, HO8.out⟩
        · have hzb : (z == P) = false := by simp [hzP]
          refine AnyR.take (by kernel_rfl) (i := 5) (v := .bool false) rfl (by kernel_rfl) (by kernel_rfl) (by kernel_rfl) (fun _ _ _ h => h) (Or.inl ⟨by rfl, ?_⟩) SW ?_
          · intro W5 hW5
            go_simp <;> first | done | rfl | (rw [IntKind.wrap_i64]; omega) | omega
          go_simp
          refine AnyR.take (by kernel_rfl) (i := 6) (v := .bool false) rfl (by kernel_rfl) (by kernel_rfl) (by kernel_rfl) (fun _ _ _ h => h) (Or.inl ⟨by rfl, ?_⟩) SW ?_
          · intro W5 hW5
            go_simp <;> first | done | rfl | (rw [IntKind.wrap_i64]; omega) | omega
          go_simp
          refine AnyR.take (by kernel_rfl) (i := 7) (v := undef) rfl (by kernel_rfl) (by kernel_rfl) (by kernel_rfl) (fun _ _ _ h => h) (Or.inr ⟨by rfl, rfl⟩) SW ?_
          go_simp
          refine AnyR.take (by kernel_rfl) (i := 8) (v := undef) rfl (by kernel_rfl) (by kernel_rfl) (by kernel_rfl) (fun _ _ _ h => h) (Or.inr ⟨by rfl, rfl⟩) SW ?_
          go_simp
          refine AnyR.take (by kernel_rfl) (i := 9) (v := undef) rfl (by kernel_rfl) (by kernel_rfl) (by kernel_rfl) (fun _ _ _ h => h) (Or.inr ⟨by rfl, rfl⟩) SW ?_
          go_simp
          refine AnyR.take (by kernel_rfl) (i := 10) (v := undef) rfl (by kernel_rfl) (by kernel_rfl) (by kernel_rfl) (fun _ _ _ h => h) (Or.inr ⟨by rfl, rfl⟩) SW ?_
          go_simp
          refine AnyR.take (by kernel_rfl) (i := 11) (v := .bool false) rfl (by kernel_rfl) (by kernel_rfl) (by kernel_rfl) (fun _ _ _ h => h) (Or.inl ⟨by rfl, ?_⟩) SW ?_
          · intro W5 hW5
            go_simp <;> first | done | rfl | (rw [IntKind.wrap_i64]; omega) | omega
          go_simp
          refine AnyR.done (by kernel_rfl) ?_ _
          clear SW
          gi_wp2
          exact ⟨(Keeps.refl O W7).drew, O, fun _ _ h => h, by rw [filter_snoc, if_neg (by rw [HZ.out, hzb]; simp), List.append_nil]; exact HC.out.keep _ _ _ _ HJ7.out (Keeps.refl _ W7).drew, HO6.out⟩
      case done =>
        rintro D O W6 hD ⟨hJ6, hO6⟩ hk6 hm6 hKd
        have z1 := HS3.out
        have z2 := HS2.out
        have z3 := HS1.out
        have z4 := HK3.out.size
        have nD : ¬ O D := fun h => by have := (HO1L.out _ (hm6 _ (by omega) h)).1; omega
        have HM6 : Hid (Mks O W.heap.size W6 ({ target := .collected D, args := #[] } :: ds)) := hide ((HM3.out.keeps hk6 (fun _ _ h => h) (fun q hq h => hO6 q hq h)).push (n := w3.heap.size) HM3.out.old (by omega) (by omega) nD hKd)
        have HJ6 : Hid (J O (atU Z t b (k + 1)) W6) := hide (by rw [HUK.out]; exact hJ6)
        have HOO : Hid (∀ q, q < W1.heap.size → O q → O0 q) := hide (fun q hq h => hO1.out q hq (hO6 q (by omega) h))
        have HK6 : Hid (Keeps O0 W1 W6) := hide ⟨hk6.os.trans HK3.out.os, hk6.tape.trans HK3.out.tape, hk6.output.trans HK3.out.output, Nat.le_trans HK3.out.size hk6.size, fun i hi hx => (hk6.block i (Nat.lt_of_lt_of_le hi HK3.out.size) (fun h => hx (hO1.out i hi h))).trans (HK3.out.block i hi hx)⟩
        clear hJ6 hO6 hk6 hm6 hKd z1 z2 z3 z4 nD HM3 HJ3 HK3
        go_wp2
        refine ⟨⟨_, _, _, _, _, _, _, _, _, _, _, _, _, _, _, _, _, _, _, _, _, _, _, _, _, _, _, _, _, _, k + 1, O, ⟨rfl, by omega, HJ6, HOO, HM6, HK6⟩, rfl⟩, ?_⟩
        show 8 - ((k : Int) + 1 + 1).toNat < 8 - ((k : Int) + 1).toNat
        omega
      case stop =>
        rintro d D O W6 hD ⟨rfl, hJ6, hO6⟩ hk6 hm6 hKd
        have z1 := HS3.out
        have z2 := HS2.out
        have z3 := HS1.out
        have z4 := HK3.out.size
        have z5 := HN.out
        have nD : ¬ O D := fun h => by have := (HO1L.out _ (hm6 _ (by omega) h)).1; omega
        have HM6 : Hid (Mks O W.heap.size W6 ({ target := .collected D, args := #[] } :: ds)) := hide ((HM3.out.keeps hk6 (fun _ _ h => h) (fun q hq h => hO6 q hq h)).push (n := w3.heap.size) HM3.out.old (by omega) (by omega) nD hKd)
        have HOO : Hid (∀ q, q < W1.heap.size → O q → O0 q) := hide (fun q hq h => hO1.out q hq (hO6 q (by omega) h))
        have HK6 : Hid (Keeps O0 W1 W6) := hide ⟨hk6.os.trans HK3.out.os, hk6.tape.trans HK3.out.tape, hk6.output.trans HK3.out.output, Nat.le_trans HK3.out.size hk6.size, fun i hi hx => (hk6.block i (Nat.lt_of_lt_of_le hi HK3.out.size) (fun h => hx (hO1.out i hi h))).trans (HK3.out.block i hi hx)⟩
        have HJ6 := hide hJ6
        clear hJ6 hO6 hk6 hm6 hKd nD HM3 HJ3
        refine wpIn_wide.2 ?_
        go_wp2
        refine leaves_mks HM6.out (fun w9 hk9 => ?_)
        refine ⟨_, results_none rfl _ _ _, ⟨_, rfl⟩, ?_, O, fun q hq h => HOO.out q (by omega) h, .inr (HC.out.keepx _ _ _ HJ6.out (hk9.mono (fun q _ e => ⟨by omega, e.2⟩)))⟩
        have k1 : Keeps O0 W W6 := (Keeps.of_all HB1.out).trans HK6.out
        exact ⟨hk9.os.trans k1.os, hk9.tape.trans k1.tape, hk9.output.trans k1.output, Nat.le_trans k1.size hk9.size, fun i hi hx => (hk9.block i (Nat.lt_of_lt_of_le hi k1.size) (fun e => by omega)).trans (k1.block i hi hx)⟩
    · obtain rfl : k = 6 := by omega
      have z5 := HN.out
      have z3 := HS1.out
      have HJ6 : Hid (J O1 XS wr) := hide (by rw [← HAL.out]; exact hJr.out)
      clear hJr
      go_wp2_with fail
      refine leaves_mks hMk.out (fun w9 hk9 => ?_)
      refine ⟨_, results_none rfl _ _ _, ⟨_, rfl⟩, ?_, O1, fun q hq h => hO1.out q (by omega) h, .inl (HC.out.keep _ _ _ _ HJ6.out (hk9.mono (fun q _ e => ⟨by omega, e.2⟩)))⟩
      have k1 : Keeps O0 W wr := (Keeps.of_all HB1.out).trans hK.out
      exact ⟨hk9.os.trans k1.os, hk9.tape.trans k1.tape, hk9.output.trans k1.output, Nat.le_trans k1.size hk9.size, fun i hi hx => (hk9.block i (Nat.lt_of_lt_of_le hi k1.size) (fun e => by omega)).trans (k1.block i hi hx)⟩

end Go.Proofs.YtdmlamnonbmboaaGreatDoor
