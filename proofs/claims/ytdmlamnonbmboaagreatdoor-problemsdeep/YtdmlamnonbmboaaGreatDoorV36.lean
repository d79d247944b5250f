/-
  Chess: all moves of a position, one by one: walked. No conditions beyond those that each theorem bears.
-/
import Derived.Test.YtdmlamnonbmboaaGreatDoorV35
import Derived.Test.YtdmlamnonbmboaaGreatDoorV32
import Derived.Test.YtdmlamnonbmboaaGreatDoorV12
namespace Go.Proofs.YtdmlamnonbmboaaGreatDoor
open Go.RowKit Go.Shelf

/-- What moves has captured. -/
structure MlR (sb b : Nat) (Z : List Int) (t k e h f : Int) (W : World) : Prop where
  p : W.cell? ⟨sb, 0, none⟩ = some (.pointer (some ⟨b, 0, none⟩))
  z : Sb W b Z t k e h f
  ts : TabS W
  tz : TzT W
def MlT (sb b : Nat) (k : Nat) : Prop := k = 1 ∨ k = 2 ∨ k = sb ∨ k = b
theorem MlR.keeps {sb b : Nat} {Z : List Int} {t k e h f : Int} {X : Nat → Prop} {W W' : World} (H : MlR sb b Z t k e h f W) (hk : Keeps X W W') (hX : ∀ j, MlT sb b j → ¬ X j) : MlR sb b Z t k e h f W' :=
  ⟨hk.cell H.p (hX sb (by unfold MlT; simp)), H.z.keeps hk (hX b (by unfold MlT; simp)), H.ts.keeps hk (hX 1 (by unfold MlT; simp)), H.tz.keeps hk (hX 2 (by unfold MlT; simp))⟩
theorem MlR.lt {sb b : Nat} {Z : List Int} {t k e h f : Int} {W : World} (H : MlR sb b Z t k e h f W) : ∀ j, MlT sb b j → j < W.heap.size := by
  rintro j (rfl | rfl | rfl | rfl)
  · exact H.ts.lt
  · exact H.tz.lt
  · exact World.block_lt_of_cell? W _ H.p
  · exact H.z.lt
theorem moves_any (b : Nat) (w : World) : Calls Tryz.prog 31 #[.pointer (some ⟨b, 0, none⟩)] w fun r w' => r = .returned (.func (.func 60) #[] #[.pointer (some ⟨w.heap.size, 0, none⟩)]) ∧ w' = w.alloc (.cells #[.pointer (some ⟨b, 0, none⟩)] 80) := by
  go_enter Tryz.func31, Tryz.ntmps31
  go_wp2
  go_ret
  exact ⟨rfl, rfl⟩
theorem MlR.new {b : Nat} {Z : List Int} {t k e h f : Int} {w : World} (hs : Sb w b Z t k e h f) (h1 : TabS w) (h2 : TzT w) :
    MlR w.heap.size b Z t k e h f (w.alloc (.cells #[.pointer (some ⟨b, 0, none⟩)] 80)) := by
  have B := (Below.refl w.heap.size w).alloc (Nat.le_refl _) (.cells #[.pointer (some ⟨b, 0, none⟩)] 80)
  exact ⟨new_cell w _ 80, hs.mono B, h1.mono B, h2.mono B⟩

def mlS (Z : List Int) (t : Nat) (k e : Int) (K : Nat) (s : List Nat) : List (Nat × Nat × Nat) := s.flatMap fun x => (mfL Z t k e x).filter (keepB Z t e K)
theorem mlS_nil (Z : List Int) (t : Nat) (k e : Int) (K : Nat) : mlS Z t k e K [] = [] := rfl
theorem mlS_snoc (Z : List Int) (t : Nat) (k e : Int) (K : Nat) (s : List Nat) (x : Nat) : mlS Z t k e K (s ++ [x]) = mlS Z t k e K s ++ (mfL Z t k e x).filter (keepB Z t e K) := by unfold mlS; rw [List.flatMap_append]; simp
theorem mlS_pre {Z : List Int} {t : Nat} {k e : Int} {K : Nat} {s L : List Nat} (h : s <+: L) : mlS Z t k e K s <+: mlS Z t k e K L := by
  obtain ⟨r, rfl⟩ := h
  unfold mlS
  rw [List.flatMap_append]; exact List.prefix_append _ _
theorem mvP_S (Z : List Int) (t : Nat) (k e : Int) (K : Nat) : mvP Z t k e K = mlS Z t k e K (bln (msk (ownB Z t) 64) 64) := by rw [bln_msk]; rfl
theorem fil_yes {p : Nat × Nat × Nat → Bool} {s : List (Nat × Nat × Nat)} {m : Nat × Nat × Nat} (h : p m = true) : (s ++ [m]).filter p = s.filter p ++ [m] := by rw [List.filter_append, List.filter_cons, if_pos h, List.filter_nil]
theorem fil_no {p : Nat × Nat × Nat → Bool} {s : List (Nat × Nat × Nat)} {m : Nat × Nat × Nat} (h : p m = false) : (s ++ [m]).filter p = s.filter p := by rw [List.filter_append, List.filter_cons, if_neg (by rw [h]; decide), List.filter_nil, List.append_nil]
theorem fil_pre {p : Nat × Nat × Nat → Bool} {s L : List (Nat × Nat × Nat)} (h : s <+: L) : s.filter p <+: L.filter p := by
  obtain ⟨r, rfl⟩ := h
  rw [List.filter_append]; exact List.prefix_append _ _

theorem bk_int {Z : List Int} {t : Nat} {e : Int} {q : Nat} (ht : t ≤ 1) (hP : Pas Z t e) (hqe : (q : Int) = e) : (q : Int) - pci t 8 = ((bk t q : Nat) : Int) := by
  have h8 : pci t 8 = fw t := rfl
  unfold Pas at hP
  unfold bk
  rw [h8]
  have hf : fw t = if t = 0 then 8 else -8 := by
    rcases (show t = 0 ∨ t = 1 by omega) with rfl | rfl <;> rfl
  rw [hf]
  split <;> omega
theorem kx_own {Z : List Int} {t x : Nat} (hz : Pz Z) (ho : ownB Z t x = true) : KX (zg Z x) := by
  have h := pci_pos (of_decide_eq_true ho)
  have := hz.2 x
  unfold KX
  have h1 := h.1
  omega
theorem exposes_mv (b : Nat) (Z : List Int) (t : Nat) (kn : Nat) (e h f : Int) (ht : t ≤ 1) (hS : Std Z) (hC : Cas Z (kn : Nat)) (hP : Pas Z t e) (K : Nat) (hK : KgAt Z t K) (x : Nat) (hx : x < 64) (ho : ownB Z t x = true)
    (m : Nat × Nat × Nat) (hm : m ∈ mfL Z t (kn : Nat) e x) (W : World) (hs : Sb W b Z (t : Nat) (kn : Nat) e h f) (hT : TabS W) :
    Calls Tryz.prog 66 #[.pointer (some ⟨b, 0, none⟩), .agg (mvC m).toArray] W fun r w' => r = .returned (.bool (exB Z t e K m.1 m.2.1 m.2.2)) ∧ Below W.heap.size W w' := by
  obtain ⟨h1, h2, h3, h4⟩ := mfL_ok hm
  obtain ⟨x', q, n⟩ := m
  dsimp only at h1 h2 h3 h4
  subst h1
  have hn := inB_lt h4
  exact exposes_any b Z t (kn : Nat) e h f ht hS.pz x' q n hx h2 (by omega) (fun hk => by
    have := tk_at ht hS hP hx h2 ho h3 hk
    exact ⟨this.2.2.1, bk_int ht hP this.1⟩) (kgA K x' q) (king_after ht hS hC hP hK hx h2 ho h3 h4).fst W hs hT

attribute [local irreducible] mlS mfL mvP bln msk keepB frB exB
attribute [local go_sem] Oper.semAt_some wide_fn wide_fn0 wide_depth

set_option maxRecDepth 100000 in
set_option maxHeartbeats 16000000 in
theorem moves1_seq (sb b : Nat) (Z : List Int) (t kn : Nat) (e h f : Int) (ht : t ≤ 1) (hS : Std Z) (hC0 : Cas Z (kn : Nat)) (hP : Pas Z t e) (K : Nat) (hK : KgAt Z t K) :
    SeqO Tryz.prog 60 #[.pointer (some ⟨sb, 0, none⟩)] MvG (mvP Z t kn e K) (MlR sb b Z (t : Nat) (kn : Nat) e h f) (MlT sb b) := by
  intro l J Jx N0 W O0 hR hN hC hY h0
  have hz := hS.pz
  have hkn : kn ≤ 15 := by have := hC0.2.1; omega
  have he : e = -1 ∨ (0 ≤ e ∧ e < 64) := by unfold Pas at hP; omega
  have HLT := hide hR.lt
  have HO0 : Hid (∀ j, O0 j → j < W.heap.size ∧ ¬ MlT sb b j) := hide (hC.lt _ _ _ h0)
  have HC := hide hC
  have HY := hide hY
  have HN := hide hN
  have HFR := hide (fun W' h1 h2 => free_any b Z t kn e h f ht hz K hK.fst he W' h1 h2)
  have HOW := hide (fun W' h1 => own_any b Z t kn e h f hz W' h1)
  have HXS := hide (mvP_S Z t kn e K)
  have HOL : Hid (∀ x, x < 64 → ownB Z t x = true → KX (zg Z x) ∧ ((zg Z x).natAbs = 1 → 8 ≤ x ∧ x < 56)) := hide (fun x hx ho => ⟨kx_own hz ho, fun hp => by have := (hS.2.1 x hx).2.2 hp; omega⟩)
  have HSQ := hide (fun sb' fb' x hx h1 h2 => movesFrom1_seq sb' fb' b Z t kn e h f ht hz hkn x hx h1 h2)
  have HEX := hide (fun x hx ho m hm W' h1 h2 => exposes_mv b Z t kn e h f ht hS hC0 hP K hK x hx ho m hm W' h1 h2)
  have HM := hide (msk_lt (ownB Z t) 64 (by omega))
  have HFM := hide (fun y (hy : y < 64) => and_msk (fun q => ownB Z t q && frB Z t e K q) hy)
  have HMB : Hid (∀ x, x ∈ bln (msk (ownB Z t) 64) 64 → x < 64 ∧ ownB Z t x = true) := hide (fun x hx => by
    rw [bln_msk, List.mem_filter, List.mem_range] at hx; exact hx)
  have HKB : Hid (∀ m, keepB Z t e K m = (frB Z t e K m.1 || !(exB Z t e K m.1 m.2.1 m.2.2))) := hide (fun m => by unfold keepB; rfl)
  obtain ⟨XS, hXS⟩ : ∃ XS, mvP Z t kn e K = XS := ⟨_, rfl⟩
  obtain ⟨M, hM⟩ : ∃ M, msk (ownB Z t) 64 = M := ⟨_, rfl⟩
  obtain ⟨FM, hFM⟩ : ∃ FM, msk (fun q => ownB Z t q && frB Z t e K q) 64 = FM := ⟨_, rfl⟩
  rw [hXS] at HY HXS ⊢
  rw [hM] at HOW HXS HM HMB
  rw [hFM] at HFR HFM
  obtain ⟨g0, hg0⟩ : ∃ g0, W.heap.size = g0 := ⟨_, rfl⟩
  obtain ⟨W1, hW1⟩ : ∃ W1, W.alloc (.cells #[.func (.yield l) #[] #[]] 56) = W1 := ⟨_, rfl⟩
  have B1 : Below g0 W W1 := by rw [← hW1, ← hg0]; exact (Below.refl _ _).alloc (Nat.le_refl _) _
  have s1 : W1.heap.size = g0 + 1 := by rw [← hW1, ← hg0]; simp
  have cy : W1.cell? ⟨g0, 0, none⟩ = some (.func (.yield l) #[] #[]) := by rw [← hW1, ← hg0]; exact new_cell W _ 56
  rw [hg0] at HLT HO0 HN
  have HG0 := hide hg0
  have R1 := hR.keeps (X := fun _ => False) (Keeps.of_all (by rw [hg0]; exact B1)) (fun _ _ e => e)
  have c1 := R1.p
  have HJ1 : Hid (J O0 [] W1) := hide (hC.keep _ _ _ _ h0 (Keeps.of_all (by rw [hg0]; exact B1)))
  have HB1 := hide B1
  have HS1 := hide s1
  have HCY := hide cy
  have HR1 := hide R1
  clear hR hN hC hY h0 B1 s1 cy R1 hXS hM hFM hz hC0 hP hK hS he hkn ht
  refine callsIn_of_wp_marks Tryz.func60 rfl trivial ?_ rfl
  simp only [Tryz.ntmps60, List.size_toArray, List.length_cons, List.length_nil, Nat.reduceAdd, Nat.reduceSub, Array.replicate_succ, Array.replicate_zero, List.push_toArray, List.append_toArray, List.nil_append, List.cons_append]
  refine wpIn_wide.2 ?_
  go_upto_region 1 with fail
  try rw [hg0]
  clear hW1
  go_wp2_with fail
  refine (HFR.out _ HR1.out.z HR1.out.ts).mono ?_
  rintro r w2 ⟨rfl, hb2⟩
  have HB2 : Hid (Below W1.heap.size W1 w2) := hide hb2
  clear hb2 HFR
  obtain ⟨fb, hfb⟩ : ∃ fb, w2.heap.size = fb := ⟨_, rfl⟩
  obtain ⟨w3, hw3⟩ : ∃ w3, w2.alloc (.cells #[.int .u64 0] 87) = w3 := ⟨_, rfl⟩
  have V3 : Vb w3 fb 87 [.int .u64 0] := by rw [← hw3, ← hfb]; exact Vb.new w2 87 _
  have B3 : Below fb w2 w3 := by rw [← hw3, ← hfb]; exact (Below.refl _ _).alloc (Nat.le_refl _) _
  have c3 := V3.cell (i := 0) rfl
  have f3 := V3.frozen 0
  obtain ⟨w4, hw4⟩ : ∃ w4, w3.setCell ⟨fb, 0, none⟩ (.int .u64 (FM : Nat)) = w4 := ⟨_, rfl⟩
  have V4 : Vb w4 fb 87 [.int .u64 (FM : Nat)] := by rw [← hw4]; exact V3.set 0 _
  have B4 : Below fb w2 w4 := by rw [← hw4]; exact B3.setCell (p := ⟨fb, 0, none⟩) (Nat.le_refl _) _
  have HFB := hide hfb
  have HV4 := hide V4
  have HB4 : Hid (Below W1.heap.size W1 w4) := hide (HB2.out.trans (B4.mono (by rw [← HFB.out]; exact HB2.out.size)))
  have HR4 := hide (HR1.out.keeps (X := fun _ => False) (Keeps.of_all HB4.out) (fun _ _ e => e))
  have HCY4 := hide ((HB4.out.cell (p := ⟨g0, 0, none⟩) (World.block_lt_of_cell? W1 _ HCY.out)).trans HCY.out)
  have HJ4 := hide (HC.out.keep _ _ _ _ HJ1.out (Keeps.of_all HB4.out))
  have HFL : Hid (g0 + 1 ≤ fb) := hide (by rw [← HFB.out, ← HS1.out]; exact HB2.out.size)
  clear V3 B3 V4 B4 HJ1
  go_upto_region 2 with fail
  clear hw3 hw4 c3 f3 hfb c1 HR1 HCY
  have c1 := HR4.out.p
  go_wp2_with fail
  refine (HOW.out _ HR4.out.z).mono ?_
  rintro r w5 ⟨rfl, hw5⟩
  subst w5
  go_wp2_with fail
  refine (each_any M _).mono ?_
  rintro r w5 ⟨rfl, hw5⟩
  have hb5 : Below w4.heap.size w4 w5 := by rw [hw5]; exact (Below.refl _ _).alloc (Nat.le_refl _) _
  have s5 : w5.heap.size = w4.heap.size + 1 := by rw [hw5]; simp
  have cm5 : w5.cell? ⟨w4.heap.size, 0, none⟩ = some (.int .u64 (M : Nat)) := by rw [hw5]; exact new_cell w4 _ 87
  have HR5 := hide (HR4.out.keeps (X := fun _ => False) (Keeps.of_all hb5) (fun _ _ e => e))
  have HCY5 := hide ((hb5.cell (p := ⟨g0, 0, none⟩) (World.block_lt_of_cell? w4 _ HCY4.out)).trans HCY4.out)
  have HV5 := hide (HV4.out.mono hb5)
  have HB5 : Hid (Below g0 W w5) := hide (HB1.out.trans ((HB4.out.trans (hb5.mono HB4.out.size)).mono (by rw [HS1.out]; omega)))
  have HJ5 := hide (HC.out.keep _ _ _ _ HJ4.out (Keeps.of_all hb5))
  have HE5 : Hid (EaR w4.heap.size M w5) := hide ⟨cm5, HR5.out.tz⟩
  have HS5 : Hid (w5.heap.size = w4.heap.size + 1 ∧ g0 + 1 ≤ w4.heap.size ∧ fb < w4.heap.size) := hide ⟨s5, by have := HS1.out; have := HB4.out.size; omega, HV4.out.lt⟩
  have HN5 : Hid (N0 ≤ w5.heap.size) := hide (Nat.le_trans HN.out (by have := HS5.out; omega))
  have HRK : Hid (∀ W', Keeps O0 w5 W' → MlR sb b Z (t : Nat) (kn : Nat) e h f W' ∧ W'.cell? ⟨g0, 0, none⟩ = some (.func (.yield l) #[] #[]) ∧ Vb W' fb 87 [.int .u64 (FM : Nat)]) := hide (fun W' hk => ⟨HR5.out.keeps hk (fun k hk2 h => (HO0.out k h).2 hk2), hk.cell HCY5.out (fun h => by have := (HO0.out _ h).1; dsimp only at this; omega), HV5.out.keeps hk (fun h => by have := (HO0.out _ h).1; have := HFL.out; omega)⟩)
  clear hw5 hb5 s5 cm5 HR4 HCY4 HV4 HJ4 HOW c1 HB4 HB2 HV5
  go_wp2_with fail
  refine (wpIn_wide (n := 1)).1 (wp_range_p (gf := 89) (lb := #[.pointer (some ⟨w4.heap.size, 0, none⟩)]) (G := EaG) (xs := bln M 64) (R := EaR w4.heap.size M) (T := fun k => k = w4.heap.size ∨ k = 2) (by simp [Act.eval]) (enters_of Tryz.func89 (by kernel_rfl) rfl)
    (each1_o w4.heap.size M HM.out) ?hT (fun A hA => ⟨(hA.cell (p := ⟨w4.heap.size, 0, none⟩) (by have := HS5.out; show w4.heap.size < _; omega)).trans HE5.out.1, HE5.out.2.mono hA⟩) (fun x args W' hG => by rw [hG]; rfl)
    (fun O s W' => J O (mlS Z t kn e K s) W' ∧ (∀ j, j < w5.heap.size → O j → O0 j)) (fun d O W' => d = .ret ∧ Jx O W' ∧ (∀ j, j < w5.heap.size → O j → O0 j)) O0 ?hC ⟨by rw [mlS_nil]; exact HJ5.out, fun _ _ h => h⟩ ?round ?done ?stop)
  case hT =>
    have z1 := HS5.out
    have z2 := HE5.out.2.lt
    rintro j (rfl | rfl)
    · omega
    · exact z2
  case hC =>
    have z1 := HS5.out
    have z2 := HE5.out.2.lt
    have z5 := HN5.out
    have nT : ∀ j, j < w5.heap.size → O0 j → ¬ (j = w4.heap.size ∨ j = 2) := by
      intro j hj hq
      have h1 := HO0.out j hq
      rintro (rfl | rfl)
      · omega
      · exact h1.2 (by unfold MlT; simp)
    intro d
    refine ⟨?_, ?_, ?_, ?_⟩
    · rintro O s A ⟨h1, h2⟩ j hj
      exact ⟨(HC.out.lt _ _ _ h1 j hj).1, fun e => nT j (by rcases e with e | e <;> omega) (h2 j (by rcases e with e | e <;> omega) hj) e⟩
    · rintro O A ⟨_, h1, h2⟩ j hj
      exact ⟨(HC.out.ltx _ _ h1 j hj).1, fun e => nT j (by rcases e with e | e <;> omega) (h2 j (by rcases e with e | e <;> omega) hj) e⟩
    · rintro O s A B ⟨h1, h2⟩ hkk
      exact ⟨HC.out.keep _ _ _ _ h1 (hkk.mono (fun j _ e => ⟨by omega, e.2⟩)), h2⟩
    · rintro O A B ⟨h0, h1, h2⟩ hkk
      exact ⟨h0, HC.out.keepx _ _ _ h1 (hkk.mono (fun j _ e => ⟨by omega, e.2⟩)), h2⟩
  case round =>
    rintro l2 O s x args W6 hl2 ⟨rec, hrec⟩ ⟨hJ6, hO6⟩ hOl hK6 hOm hpre hG hsz6
    obtain rfl : args = #[.int .i64 (x : Nat)] := hG
    obtain ⟨hx64, hox⟩ := HMB.out x (hpre.subset (by simp))
    obtain ⟨R6, cy6, V6⟩ := HRK.out _ hK6
    have HPRE : Hid (mlS Z t kn e K s ++ (mfL Z t kn e x).filter (keepB Z t e K) <+: XS) := hide (by rw [HXS.out, ← mlS_snoc]; exact mlS_pre hpre)
    obtain ⟨g6, hg6⟩ : ∃ g6, W6.heap.size = g6 := ⟨_, rfl⟩
    obtain ⟨W61, hW61⟩ : ∃ W61, W6.alloc (.cells #[.int .i64 0] 3) = W61 := ⟨_, rfl⟩
    have V61 : Vb W61 g6 3 [.int .i64 0] := by rw [← hW61, ← hg6]; exact Vb.new W6 3 _
    have c61 := V61.cell (i := 0) rfl
    have f61 := V61.frozen 0
    have B61 : Below g6 W6 W61 := by rw [← hW61, ← hg6]; exact (Below.refl _ _).alloc (Nat.le_refl _) _
    obtain ⟨W62, hW62⟩ : ∃ W62, W61.setCell ⟨g6, 0, none⟩ (.int .i64 (x : Nat)) = W62 := ⟨_, rfl⟩
    have V62 : Vb W62 g6 3 [.int .i64 (x : Nat)] := by rw [← hW62]; exact V61.set 0 _
    have B62 : Below g6 W6 W62 := by rw [← hW62]; exact B61.setCell (p := ⟨g6, 0, none⟩) (Nat.le_refl _) _
    have HB62 : Hid (Below W6.heap.size W6 W62) := hide (by rw [hg6]; exact B62)
    have HG6 := hide hg6
    have HV62 := hide V62
    have HR6 := hide (R6.keeps (X := fun _ => False) (Keeps.of_all HB62.out) (fun _ _ e => e))
    have HCY6 := hide ((HB62.out.cell (p := ⟨g0, 0, none⟩) (World.block_lt_of_cell? W6 _ cy6)).trans cy6)
    have HV6 := hide (V6.mono HB62.out)
    have HJ6 := hide (HC.out.keep _ _ _ _ hJ6 (Keeps.of_all HB62.out))
    have HJ6n := hide hJ6
    have HO7 := hide hO6
    have HSZ6 : Hid (w5.heap.size + 2 ≤ g6) := hide (by rw [← hg6]; exact hsz6)
    have HOL2 := hide hOl
    have HL2 := hide hl2
    have HKX := hide (HOL.out x hx64 hox)
    have HEXx := hide (fun m hm W' h1 h2 => HEX.out x hx64 hox m hm W' h1 h2)
    have HFX : Hid ((bits BinOp.and .u64 ((FM : Nat) : Int) ((2 ^ x : Nat) : Int) == 0) = !(frB Z t e K x)) := hide (by rw [HFM.out x hx64, hox, Bool.true_and])
    have HJX := hide (just_any x hx64)
    clear hJ6 hO6 hOl hK6 hOm hpre hsz6 hrec hl2 R6 cy6 V6 V61 B61 V62 B62
    gi_wp2
    refine ⟨HB62.out, ?_⟩
    clear hW61 hW62 c61 f61 hg6
    rintro W7 hk7 ⟨r0, hl0⟩
    have z1 := HS5.out
    have z6 := HL2.out
    have z7 := HSZ6.out
    have z8 := HN5.out
    have HJ7 := hide (HC.out.keep _ _ _ _ HJ6.out (hk7.mono (fun j _ e => ⟨by omega, fun h => HOL2.out (e ▸ h)⟩)))
    have lts : ∀ j, MlT sb b j → j < g0 := HLT.out
    have HR7 := hide (HR6.out.keeps hk7 (fun j hj e => by have := lts j hj; omega))
    have HCY7 := hide (hk7.cell HCY6.out (fun e => by dsimp only at e; omega))
    have HV7 := hide (HV6.out.keeps hk7 (fun e => by omega))
    have HX7 := hide (HV62.out.keeps hk7 (fun e => by omega))
    have HO : Hid (∀ j, O j → j < W7.heap.size ∧ ¬ MlT sb b j ∧ j ≠ g0 ∧ j ≠ fb ∧ j ≠ g6) := hide (by
      intro j hj
      have h1 := HC.out.lt _ _ _ HJ7.out j hj
      refine ⟨h1.1, h1.2, ?_, ?_, ?_⟩
      · rintro rfl
        have := HO0.out _ (HO7.out _ (by omega) hj); omega
      · rintro rfl
        have := HO0.out _ (HO7.out _ (by omega) hj); have := HFL.out; omega
      · rintro rfl
        have h2 := HC.out.lt _ _ _ HJ6n.out j hj
        have := h2.1
        have := HG6.out
        omega)
    have HZ7 : Hid (w5.heap.size + 2 ≤ W7.heap.size ∧ g6 < W7.heap.size) := hide ⟨by have := HX7.out.lt; omega, HX7.out.lt⟩
    have HL0 := hide hl0
    clear hk7 z1 z6 z7 z8 lts HJ6 HR6 HCY6 HV6 HV62 hl0
    have c1 := HR7.out.p
    have cx := HX7.out.cell (i := 0) rfl
    gi_wp2
    refine (CallsIn.inRound l2 (callsIn_wide.2 (movesFrom_any b x _))).mono ?_
    rintro r W9 ⟨rfl, hw9⟩
    have hb9 : Below W7.heap.size W7 W9 := by rw [hw9]; exact ((Below.refl _ _).alloc (Nat.le_refl _) _).alloc (by simp) _
    have s9 : W9.heap.size = W7.heap.size + 2 := by rw [hw9]; simp
    have HM9 : Hid (MfR W7.heap.size (W7.heap.size + 1) b Z (t : Nat) (kn : Nat) e h f x W9) := hide (by rw [hw9]; exact MfR.new x HR7.out.z HR7.out.ts HR7.out.tz)
    have hl9 := (hb9.block l2 (Array.getElem?_eq_some_iff.1 HL0.out).1).trans HL0.out
    have HB9 := hide hb9
    have HS9 := hide s9
    have HJ9 := hide (HC.out.keep _ _ _ _ HJ7.out (Keeps.of_all hb9))
    have HN9 : Hid (N0 ≤ W9.heap.size) := hide (by have := HZ7.out; have := HN5.out; omega)
    have HRK9 : Hid (∀ W', Keeps O W9 W' → MlR sb b Z (t : Nat) (kn : Nat) e h f W' ∧ W'.cell? ⟨g0, 0, none⟩ = some (.func (.yield l) #[] #[]) ∧ Vb W' fb 87 [.int .u64 (FM : Nat)] ∧ Vb W' g6 3 [.int .i64 (x : Nat)]) := hide (fun W' hk =>
      ⟨(HR7.out.keeps (X := fun _ => False) (Keeps.of_all hb9) (fun _ _ e => e)).keeps hk (fun k hk2 h => (HO.out k h).2.1 hk2),
       hk.cell ((hb9.cell (p := ⟨g0, 0, none⟩) (World.block_lt_of_cell? W7 _ HCY7.out)).trans HCY7.out) (fun h => (HO.out _ h).2.2.1 rfl),
       (HV7.out.mono hb9).keeps hk (fun h => (HO.out _ h).2.2.2.1 rfl), (HX7.out.mono hb9).keeps hk (fun h => (HO.out _ h).2.2.2.2 rfl)⟩)
    clear hw9 hb9 s9 HR7 HCY7 HV7 HX7 c1 cx HJ7
    gi_wp2
    refine wp_range_n (l0 := l2) hl9 (gf := 91) (lb := #[.pointer (some ⟨W7.heap.size, 0, none⟩), .pointer (some ⟨W7.heap.size + 1, 0, none⟩)]) (by simp [Act.eval]) (enters_of Tryz.func91 (by kernel_rfl) rfl)
      (HSQ.out W7.heap.size (W7.heap.size + 1) x hx64 HKX.out.1 HKX.out.2) (fun j hj => HM9.out.lt j hj) (fun A hA => HM9.out.keeps (X := fun _ => False) (Keeps.of_all hA) (fun _ _ e => e)) (fun x args W' hG => by rw [hG]; rfl)
      (fun O1 s2 W' => J O1 (mlS Z t kn e K s ++ s2.filter (keepB Z t e K)) W' ∧ (∀ j, j < W9.heap.size → O1 j → O j)) (fun d O1 W' => d = .ret ∧ Jx O1 W' ∧ (∀ j, j < W9.heap.size → O1 j → O j)) O ?iC ⟨by rw [List.filter_nil, List.append_nil]; exact HJ9.out, fun _ _ h => h⟩ ?iround ?idone ?istop
    case iC =>
      have z1 := HS9.out
      have z5 := HN9.out
      have nT : ∀ j, j < W9.heap.size → O j → ¬ MfT W7.heap.size (W7.heap.size + 1) b j := by
        intro j hj hq
        have h1 := HO.out j hq
        rintro (rfl | rfl | rfl | rfl | rfl)
        · exact h1.2.1 (by unfold MlT; simp)
        · exact h1.2.1 (by unfold MlT; simp)
        · omega
        · omega
        · exact h1.2.1 (by unfold MlT; simp)
      have tl : ∀ j, MfT W7.heap.size (W7.heap.size + 1) b j → j < W9.heap.size := fun j hj => HM9.out.lt j hj
      intro d
      refine ⟨?_, ?_, ?_, ?_⟩
      · rintro O1 s A ⟨h1, h2⟩ j hj
        exact ⟨(HC.out.lt _ _ _ h1 j hj).1, fun e => nT j (tl j e) (h2 j (tl j e) hj) e⟩
      · rintro O1 A ⟨_, h1, h2⟩ j hj
        exact ⟨(HC.out.ltx _ _ h1 j hj).1, fun e => nT j (tl j e) (h2 j (tl j e) hj) e⟩
      · rintro O1 s A B ⟨h1, h2⟩ hkk
        exact ⟨HC.out.keep _ _ _ _ h1 (hkk.mono (fun j _ e => ⟨by omega, e.2⟩)), h2⟩
      · rintro O1 A B ⟨h0, h1, h2⟩ hkk
        exact ⟨h0, HC.out.keepx _ _ _ h1 (hkk.mono (fun j _ e => ⟨by omega, e.2⟩)), h2⟩
    case iround =>
      rintro l3 O1 s2 m args WA hl3 _ ⟨hJA, hOA⟩ hOl3 hKA hOm3 hpre3 hG3 hszA
      obtain rfl : args = #[mvV m] := hG3
      have hmm : m ∈ mfL Z t kn e x := hpre3.subset (by simp)
      have HPRE3 : Hid (mlS Z t kn e K s ++ (s2 ++ [m]).filter (keepB Z t e K) <+: XS) := hide (((List.prefix_append_right_inj _).2 (fil_pre hpre3)).trans HPRE.out)
      have HMX : Hid (m.1 = x) := hide (mfL_ok hmm).1
      have HEM := hide (fun W' h1 h2 => HEXx.out m hmm W' h1 h2)
      obtain ⟨RA, cyA, VA, XA⟩ := HRK9.out _ hKA
      obtain ⟨gA, hgA⟩ : ∃ gA, WA.heap.size = gA := ⟨_, rfl⟩
      obtain ⟨WB, hWB⟩ : ∃ WB, WA.alloc (.cells #[.int .i64 0, .int .i64 0, .int .i64 0] 32) = WB := ⟨_, rfl⟩
      have VB : Vb WB gA 32 [.int .i64 0, .int .i64 0, .int .i64 0] := by rw [← hWB, ← hgA]; exact Vb.new WA 32 _
      have BB : Below WA.heap.size WA WB := by rw [← hWB]; exact (Below.refl _ _).alloc (Nat.le_refl _) _
      have HRA := hide (RA.keeps (X := fun _ => False) (Keeps.of_all BB) (fun _ _ e => e))
      have HCYA := hide ((BB.cell (p := ⟨g0, 0, none⟩) (World.block_lt_of_cell? WA _ cyA)).trans cyA)
      have HVA := hide (VA.mono BB)
      have HXA := hide (XA.mono BB)
      have HJA := hide (HC.out.keep _ _ _ _ hJA (Keeps.of_all BB))
      have HJA0 := hide hJA
      have HBB := hide BB
      have HOA := hide hOA
      have HGA := hide hgA
      have HSZA := hide hszA
      have HL3 := hide hl3
      have HOL3 := hide hOl3
      clear hJA hOA hOl3 hKA hOm3 hpre3 hszA hl3 RA cyA VA XA BB hmm
      gi_wp2_with (refine wpListIn_store_vb rfl 32 (.tmp 5) (.tmp 15) rfl gA (mvC m) _ (by simp [Act.eval]) rfl VB rfl row26 (mvC_one m) ?_; intro WC VC KC)
      clear hWB VB
      have BC : Below WA.heap.size WA WC := HBB.out.trans (KC.below HBB.out.size (fun j hj e => by have := HGA.out; omega))
      refine ⟨BC, ?_⟩
      intro WD hkD
      have zA := HSZA.out
      have z3 := HL3.out
      have z9 := HS9.out
      have z7 := HZ7.out
      have zg := HGA.out
      have z5 := HS5.out
      have zN := HN9.out
      have KAD : Keeps (fun j => j = gA ∨ j = l3) WB WD := (KC.mono (fun _ _ e => Or.inl e)).trans (hkD.mono (fun _ _ e => Or.inr e))
      have nX : ∀ j, MlT sb b j ∨ j = g0 ∨ j = fb ∨ j = g6 → ¬ (j = gA ∨ j = l3) := by
        intro j hj
        have h1 : j < W7.heap.size := by
          rcases hj with hj | rfl | rfl | rfl
          · have := HLT.out j hj; omega
          · omega
          · omega
          · omega
        omega
      have HRD := hide (HRA.out.keeps KAD (fun j hj => nX j (Or.inl hj)))
      have HCYD := hide (KAD.cell HCYA.out (nX g0 (Or.inr (Or.inl rfl))))
      have HVD := hide (HVA.out.keeps KAD (nX fb (Or.inr (Or.inr (Or.inl rfl)))))
      have HXD := hide (HXA.out.keeps KAD (nX g6 (Or.inr (Or.inr (Or.inr rfl)))))
      have HMD := hide (VC.keeps hkD (fun e => by omega))
      have nO1 : ∀ j, O1 j → j < WA.heap.size := fun j hj => (HC.out.lt _ _ _ HJA0.out j hj).1
      have HJD := hide (HC.out.keep _ _ _ _ HJA.out (KAD.mono (fun j _ e => ⟨by rcases e with rfl | rfl <;> omega, fun h => by
        rcases e with rfl | rfl
        · have := nO1 _ h; omega
        · exact HOL3.out h⟩)))
      have HO1 : Hid (∀ j, O1 j → ¬ MlT sb b j ∧ j ≠ g0 ∧ j ≠ fb ∧ j ≠ g6 ∧ j ≠ gA) := hide (by
        intro j hj
        refine ⟨(HC.out.lt _ _ _ HJD.out j hj).2, ?_, ?_, ?_, ?_⟩
        · rintro rfl; exact (HO.out _ (HOA.out _ (by omega) hj)).2.2.1 rfl
        · rintro rfl; exact (HO.out _ (HOA.out _ (by omega) hj)).2.2.2.1 rfl
        · rintro rfl; exact (HO.out _ (HOA.out _ (by omega) hj)).2.2.2.2 rfl
        · rintro rfl; have := nO1 _ hj; omega)
      have HZD : Hid (W9.heap.size + 1 ≤ WD.heap.size) := hide (by have := HMD.out.lt; omega)
      clear KC VC hkD zA z3 z9 z7 zg z5 zN KAD nX nO1 HJA HJA0 HRA HCYA HVA HXA BC HBB hgA
      obtain ⟨px, hpx⟩ : ∃ px, 2 ^ x = px := ⟨_, rfl⟩
      rw [hpx] at HFX HJX
      clear hpx
      gi_wp2
      refine wp_region_round (S := fun W5 => Below WD.heap.size WD W5) (by kernel_rfl) (by kernel_rfl) (by rintro ⟨_, _, h⟩; exact h) ?_
      have SW : Below WD.heap.size WD WD.drew := (Below.refl _ _).drew
      generalize WD.drew = wd at *
      refine wpAnyH_take (i := 0) (v := .int .u64 (FM : Nat)) rfl (by kernel_rfl) (by kernel_rfl) (by kernel_rfl) (fun _ _ _ h => h) (Or.inl ⟨by rfl, ?_⟩) SW ?_
      · intro W5 hW5
        have y0 := (HVD.out.mono hW5).cell (i := 0) rfl
        go_simp <;> first | done | rfl | (rw [IntKind.wrap_i64]; omega) | omega
      go_simp
      refine wpAnyH_take (i := 1) (v := .int .i64 (x : Nat)) rfl (by kernel_rfl) (by kernel_rfl) (by kernel_rfl) (fun _ _ _ h => h) (Or.inl ⟨by rfl, ?_⟩) SW ?_
      · intro W5 hW5
        have y0 := (HXD.out.mono hW5).cell (i := 0) rfl
        go_simp <;> first | done | rfl | (rw [IntKind.wrap_i64]; omega) | omega
      go_simp
      refine wpAnyH_ready (rs := [2]) (by kernel_rfl) (by simp) ?_
      refine AllReadyH.cons rfl (fun K1 hK1 => ?_) AllReadyH.nil
      go_simp
      refine (HJX.out _).mono ?_
      rintro r w5 ⟨rfl, hw⟩
      subst w5
      refine hK1.out _ _ SW (fun SW => ?_)
      clear hK1 K1
      go_simp
      refine wpAnyH_take (i := 3) (v := .int .u64 (bits BinOp.and .u64 ((FM : Nat) : Int) ((px : Nat) : Int))) rfl (by kernel_rfl) (by kernel_rfl) (by kernel_rfl) (fun _ _ _ h => h) (Or.inl ⟨by rfl, ?_⟩) SW ?_
      · intro W5 hW5
        go_simp <;> first | done | rfl | (rw [IntKind.wrap_i64]; omega) | omega
      go_simp
      cases hfr : frB Z t e K x with
      | true =>
        have HKP : Hid (keepB Z t e K m = true) := hide (by rw [HKB.out, HMX.out, hfr]; rfl)
        have he0 : (bits BinOp.and .u64 ((FM : Nat) : Int) ((px : Nat) : Int) == 0) = false := by rw [HFX.out, hfr]; rfl
        refine wpAnyH_take (i := 4) (v := .bool false) rfl (by kernel_rfl) (by kernel_rfl) (by kernel_rfl) (fun _ _ _ h => h) (Or.inl ⟨by rfl, ?_⟩) SW ?_
        · intro W5 hW5
          go_simp <;> first | done | rfl | (rw [IntKind.wrap_i64]; omega) | omega
        go_simp
        refine wpAnyH_take (i := 5) (v := .bool false) rfl (by kernel_rfl) (by kernel_rfl) (by kernel_rfl) (fun _ _ _ h => h) (Or.inl ⟨by rfl, ?_⟩) SW ?_
        · intro W5 hW5
          go_simp <;> first | done | rfl | (rw [IntKind.wrap_i64]; omega) | omega
        go_simp
        refine wpAnyH_take (i := 6) (v := undef) rfl (by kernel_rfl) (by kernel_rfl) (by kernel_rfl) (fun _ _ _ h => h) (Or.inr ⟨by rfl, rfl⟩) SW ?_
        go_simp
        refine wpAnyH_take (i := 7) (v := undef) rfl (by kernel_rfl) (by kernel_rfl) (by kernel_rfl) (fun _ _ _ h => h) (Or.inr ⟨by rfl, rfl⟩) SW ?_
        go_simp
        refine wpAnyH_take (i := 8) (v := undef) rfl (by kernel_rfl) (by kernel_rfl) (by kernel_rfl) (fun _ _ _ h => h) (Or.inr ⟨by rfl, rfl⟩) SW ?_
        go_simp
        refine wpAnyH_take (i := 9) (v := .bool false) rfl (by kernel_rfl) (by kernel_rfl) (by kernel_rfl) (fun _ _ _ h => h) (Or.inl ⟨by rfl, ?_⟩) SW ?_
        · intro W5 hW5
          go_simp <;> first | done | rfl | (rw [IntKind.wrap_i64]; omega) | omega
        go_simp
        refine wpAnyH_done (by kernel_rfl) ?_ _
        have HBW : Hid (Below WD.heap.size WD wd) := hide (SW)
        have HJW := hide (HC.out.keep _ _ _ _ HJD.out (Keeps.of_all HBW.out))
        have HMW := hide (HMD.out.mono HBW.out)
        have mc0 := HMW.out.cell (i := 0) rfl
        have mc1 := HMW.out.cell (i := 1) rfl
        have mc2 := HMW.out.cell (i := 2) rfl
        have HNW : Hid (N0 ≤ wd.heap.size) := hide (by have := HN9.out; have := HZD.out; have := HBW.out.size; omega)
        have cyr := (HBW.out.cell (p := ⟨g0, 0, none⟩) (World.block_lt_of_cell? WD _ HCYD.out)).trans HCYD.out
        have HKM := hide (fil_yes (s := s2) HKP.out)
        have HPF : Hid ((mlS Z t kn e K s ++ s2.filter (keepB Z t e K)) ++ [m] <+: XS) := hide (by rw [List.append_assoc, ← HKM.out]; exact HPRE3.out)
        clear SW
        obtain ⟨fn, tmps, assign, body, hyy, hRR⟩ := YieldAt.anyD (m' := 0) (HY.out O1 _ m #[.agg #[.int .i64 (m.1 : Nat), .int .i64 (m.2.1 : Nat), .int .i64 (m.2.2 : Nat)]] _ HJW.out HPF.out rfl HNW.out)
        gi_wp2
        refine RoundIn.mono (F := Fence.wide.inRound l3) hRR ?_
        rintro e W8 ⟨hk8, O', hO', h8⟩
        have HK8 : Hid (Keeps O1 WD W8) := hide ((Keeps.of_all HBW.out).trans hk8)
        have HO8 : Hid (∀ j, j < WD.heap.size → O' j → O1 j) := hide (fun j hj h => hO' j (Nat.lt_of_lt_of_le hj HBW.out.size) h)
        clear hyy hRR hk8 hO' mc0 mc1 mc2 cyr
        rcases h8 with ⟨rfl, h8⟩ | ⟨rfl, h8⟩
        · have H8 := hide h8
          clear h8
          gi_wp2
          exact ⟨HK8.out, O', HO8.out, by rw [HKM.out, ← List.append_assoc]; exact H8.out, fun j hj h => HOA.out j hj (HO8.out j (by have := HZD.out; omega) h)⟩
        · have H8 := hide h8
          clear h8
          gi_wp2
          exact ⟨HK8.out, O', HO8.out, rfl, H8.out, fun j hj h => HOA.out j hj (HO8.out j (by have := HZD.out; omega) h)⟩
      | false =>
        have hkm : keepB Z t e K m = !(exB Z t e K m.1 m.2.1 m.2.2) := by rw [HKB.out, HMX.out, hfr]; rfl
        have he0 : (bits BinOp.and .u64 ((FM : Nat) : Int) ((px : Nat) : Int) == 0) = true := by rw [HFX.out, hfr]; rfl
        cases hex : exB Z t e K m.1 m.2.1 m.2.2 with
        | true =>
          rw [hex] at hkm HEM
          have HKM := hide (fil_no (s := s2) hkm)
          clear hkm
          refine wpAnyH_take (i := 4) (v := .bool true) rfl (by kernel_rfl) (by kernel_rfl) (by kernel_rfl) (fun _ _ _ h => h) (Or.inl ⟨by rfl, ?_⟩) SW ?_
          · intro W5 hW5
            go_simp <;> first | done | rfl | (rw [IntKind.wrap_i64]; omega) | omega
          go_simp
          refine wpAnyH_take (i := 5) (v := .bool true) rfl (by kernel_rfl) (by kernel_rfl) (by kernel_rfl) (fun _ _ _ h => h) (Or.inl ⟨by rfl, ?_⟩) SW ?_
          · intro W5 hW5
            go_simp <;> first | done | rfl | (rw [IntKind.wrap_i64]; omega) | omega
          go_simp
          refine wpAnyH_take (i := 6) (v := .pointer (some ⟨b, 0, none⟩)) rfl (by kernel_rfl) (by kernel_rfl) (by kernel_rfl) (fun _ _ _ h => h) (Or.inl ⟨by rfl, ?_⟩) SW ?_
          · intro W5 hW5
            have y0 := (HRD.out.keeps (X := fun _ => False) (Keeps.of_all hW5) (fun _ _ e => e)).p
            go_simp <;> first | done | rfl | (rw [IntKind.wrap_i64]; omega) | omega
          go_simp
          refine wpAnyH_take (i := 7) (v := .agg (mvC m).toArray) rfl (by kernel_rfl) (by kernel_rfl) (by kernel_rfl) (fun _ _ _ h => h) (yieldsIf_load_mid (by rfl) 32 _ rfl gA 0 (by rfl) (mvC m) _ (fun W5 hW5 => (HMD.out.mono hW5).range) Tryz.underlying32 rfl size26) SW ?_
          go_simp
          refine wpAnyH_ready (rs := [8]) (by kernel_rfl) (by simp) ?_
          refine AllReadyH.cons rfl (fun K1 hK1 => ?_) AllReadyH.nil
          go_simp
          have RDw := HRD.out.keeps (X := fun _ => False) (Keeps.of_all SW) (fun _ _ e => e)
          refine (HEM.out _ RDw.z RDw.ts).mono ?_
          rintro r w5 ⟨rfl, hb5⟩
          have SW5 : Below WD.heap.size WD w5 := SW.trans (hb5.mono SW.size)
          clear hb5 RDw SW
          refine hK1.out _ _ SW5 (fun SW => ?_)
          clear hK1 K1 SW5
          go_simp
          refine wpAnyH_take (i := 9) (v := .bool true) rfl (by kernel_rfl) (by kernel_rfl) (by kernel_rfl) (fun _ _ _ h => h) (Or.inl ⟨by rfl, ?_⟩) SW ?_
          · intro W5 hW5
            go_simp <;> first | done | rfl | (rw [IntKind.wrap_i64]; omega) | omega
          go_simp
          refine wpAnyH_done (by kernel_rfl) ?_ _
          have HBW : Hid (Below WD.heap.size WD w5) := hide SW
          have HJW := hide (HC.out.keep _ _ _ _ HJD.out (Keeps.of_all HBW.out))
          clear SW
          gi_wp2
          exact ⟨Keeps.of_all HBW.out, O1, fun _ _ h => h, by rw [HKM.out]; exact HJW.out, fun j hj h => HOA.out j hj h⟩
        | false =>
          rw [hex] at hkm HEM
          have HKP : Hid (keepB Z t e K m = true) := hide hkm
          clear hkm
          refine wpAnyH_take (i := 4) (v := .bool true) rfl (by kernel_rfl) (by kernel_rfl) (by kernel_rfl) (fun _ _ _ h => h) (Or.inl ⟨by rfl, ?_⟩) SW ?_
          · intro W5 hW5
            go_simp <;> first | done | rfl | (rw [IntKind.wrap_i64]; omega) | omega
          go_simp
          refine wpAnyH_take (i := 5) (v := .bool true) rfl (by kernel_rfl) (by kernel_rfl) (by kernel_rfl) (fun _ _ _ h => h) (Or.inl ⟨by rfl, ?_⟩) SW ?_
          · intro W5 hW5
            go_simp <;> first | done | rfl | (rw [IntKind.wrap_i64]; omega) | omega
          go_simp
          refine wpAnyH_take (i := 6) (v := .pointer (some ⟨b, 0, none⟩)) rfl (by kernel_rfl) (by kernel_rfl) (by kernel_rfl) (fun _ _ _ h => h) (Or.inl ⟨by rfl, ?_⟩) SW ?_
          · intro W5 hW5
            have y0 := (HRD.out.keeps (X := fun _ => False) (Keeps.of_all hW5) (fun _ _ e => e)).p
            go_simp <;> first | done | rfl | (rw [IntKind.wrap_i64]; omega) | omega
          go_simp
          refine wpAnyH_take (i := 7) (v := .agg (mvC m).toArray) rfl (by kernel_rfl) (by kernel_rfl) (by kernel_rfl) (fun _ _ _ h => h) (yieldsIf_load_mid (by rfl) 32 _ rfl gA 0 (by rfl) (mvC m) _ (fun W5 hW5 => (HMD.out.mono hW5).range) Tryz.underlying32 rfl size26) SW ?_
          go_simp
          refine wpAnyH_ready (rs := [8]) (by kernel_rfl) (by simp) ?_
          refine AllReadyH.cons rfl (fun K1 hK1 => ?_) AllReadyH.nil
          go_simp
          have RDw := HRD.out.keeps (X := fun _ => False) (Keeps.of_all SW) (fun _ _ e => e)
          refine (HEM.out _ RDw.z RDw.ts).mono ?_
          rintro r w5 ⟨rfl, hb5⟩
          have SW5 : Below WD.heap.size WD w5 := SW.trans (hb5.mono SW.size)
          clear hb5 RDw SW
          refine hK1.out _ _ SW5 (fun SW => ?_)
          clear hK1 K1 SW5
          go_simp
          refine wpAnyH_take (i := 9) (v := .bool false) rfl (by kernel_rfl) (by kernel_rfl) (by kernel_rfl) (fun _ _ _ h => h) (Or.inl ⟨by rfl, ?_⟩) SW ?_
          · intro W5 hW5
            go_simp <;> first | done | rfl | (rw [IntKind.wrap_i64]; omega) | omega
          go_simp
          refine wpAnyH_done (by kernel_rfl) ?_ _
          have HBW : Hid (Below WD.heap.size WD w5) := hide (SW)
          have HJW := hide (HC.out.keep _ _ _ _ HJD.out (Keeps.of_all HBW.out))
          have HMW := hide (HMD.out.mono HBW.out)
          have mc0 := HMW.out.cell (i := 0) rfl
          have mc1 := HMW.out.cell (i := 1) rfl
          have mc2 := HMW.out.cell (i := 2) rfl
          have HNW : Hid (N0 ≤ w5.heap.size) := hide (by have := HN9.out; have := HZD.out; have := HBW.out.size; omega)
          have cyr := (HBW.out.cell (p := ⟨g0, 0, none⟩) (World.block_lt_of_cell? WD _ HCYD.out)).trans HCYD.out
          have HKM := hide (fil_yes (s := s2) HKP.out)
          have HPF : Hid ((mlS Z t kn e K s ++ s2.filter (keepB Z t e K)) ++ [m] <+: XS) := hide (by rw [List.append_assoc, ← HKM.out]; exact HPRE3.out)
          clear SW
          obtain ⟨fn, tmps, assign, body, hyy, hRR⟩ := YieldAt.anyD (m' := 0) (HY.out O1 _ m #[.agg #[.int .i64 (m.1 : Nat), .int .i64 (m.2.1 : Nat), .int .i64 (m.2.2 : Nat)]] _ HJW.out HPF.out rfl HNW.out)
          gi_wp2
          refine RoundIn.mono (F := Fence.wide.inRound l3) hRR ?_
          rintro e W8 ⟨hk8, O', hO', h8⟩
          have HK8 : Hid (Keeps O1 WD W8) := hide ((Keeps.of_all HBW.out).trans hk8)
          have HO8 : Hid (∀ j, j < WD.heap.size → O' j → O1 j) := hide (fun j hj h => hO' j (Nat.lt_of_lt_of_le hj HBW.out.size) h)
          clear hyy hRR hk8 hO' mc0 mc1 mc2 cyr
          rcases h8 with ⟨rfl, h8⟩ | ⟨rfl, h8⟩
          · have H8 := hide h8
            clear h8
            gi_wp2
            exact ⟨HK8.out, O', HO8.out, by rw [HKM.out, ← List.append_assoc]; exact H8.out, fun j hj h => HOA.out j hj (HO8.out j (by have := HZD.out; omega) h)⟩
          · have H8 := hide h8
            clear h8
            gi_wp2
            exact ⟨HK8.out, O', HO8.out, rfl, H8.out, fun j hj h => HOA.out j hj (HO8.out j (by have := HZD.out; omega) h)⟩
    case idone =>
      rintro O1 WE ⟨hJE, hOE⟩ hkE hmE
      have HJE : Hid (J O1 (mlS Z t kn e K (s ++ [x])) WE) := hide (by rw [mlS_snoc]; exact hJE)
      have z9 := HS9.out
      have z7 := HZ7.out
      have hk : Keeps O W7 WE := (Keeps.of_all HB9.out).trans hkE
      gi_wp2
      exact ⟨hk, O1, fun j hj h => hOE j (by omega) h, HJE.out, fun j hj h => HO7.out j hj (hOE j (by omega) h)⟩
    case istop =>
      rintro d O1 WE ⟨rfl, hJE, hOE⟩ hkE hmE
      have HJE := hide hJE
      have z9 := HS9.out
      have z7 := HZ7.out
      have hk : Keeps O W7 WE := (Keeps.of_all HB9.out).trans hkE
      gi_wp2
      exact ⟨hk, O1, fun j hj h => hOE j (by omega) h, rfl, HJE.out, fun j hj h => HO7.out j hj (hOE j (by omega) h)⟩
  case done =>
    rintro D O W6 hD ⟨hJ6, hO6⟩ hk6 hm6 hKd
    have z1 := HS5.out
    have nD : ¬ O D := fun h => by have := (HO0.out _ (hm6 _ (by omega) h)).1; omega
    have HM6 : Hid (Mks O g0 W6 [{ target := .collected D, args := #[] }]) := hide ((Mks.nil O g0 W6).push (n := w5.heap.size) (fun Ds hd E hE => by
      cases Ds with
      | nil => cases hE
      | cons _ _ => simp at hd) (by omega) (by omega) nD hKd)
    have HJ6 : Hid (J O XS W6) := hide (by rw [HXS.out]; exact hJ6)
    have HOO : Hid (∀ j, j < g0 → O j → O0 j) := hide (fun j hj h => hO6 j (by omega) h)
    have HK6 : Hid (Keeps O0 W W6) := hide ((Keeps.of_all (by rw [HG0.out]; exact HB5.out)).trans hk6)
    have z5 := HN.out
    clear hJ6 hO6 hk6 hm6 hKd z1 nD HJ5
    go_wp2
    refine leaves_mks HM6.out (fun w9 hk9 => ?_)
    refine ⟨_, results_none rfl _ _ _, ⟨_, rfl⟩, HK6.out.after hk9 (fun i hi e => by have := HG0.out; omega), O, (by rw [HG0.out]; exact HOO.out), .inl (HC.out.keep _ _ _ _ HJ6.out (hk9.mono (fun j _ e => ⟨by omega, e.2⟩)))⟩
  case stop =>
    rintro d D O W6 hD ⟨rfl, hJ6, hO6⟩ hk6 hm6 hKd
    have z1 := HS5.out
    have nD : ¬ O D := fun h => by have := (HO0.out _ (hm6 _ (by omega) h)).1; omega
    have HM6 : Hid (Mks O g0 W6 [{ target := .collected D, args := #[] }]) := hide ((Mks.nil O g0 W6).push (n := w5.heap.size) (fun Ds hd E hE => by
      cases Ds with
      | nil => cases hE
      | cons _ _ => simp at hd) (by omega) (by omega) nD hKd)
    have HJ6 := hide hJ6
    have HOO : Hid (∀ j, j < g0 → O j → O0 j) := hide (fun j hj h => hO6 j (by omega) h)
    have HK6 : Hid (Keeps O0 W W6) := hide ((Keeps.of_all (by rw [HG0.out]; exact HB5.out)).trans hk6)
    have z5 := HN.out
    clear hJ6 hO6 hk6 hm6 hKd z1 nD HJ5
    refine wpIn_wide.2 ?_
    go_wp2
    refine leaves_mks HM6.out (fun w9 hk9 => ?_)
    refine ⟨_, results_none rfl _ _ _, ⟨_, rfl⟩, HK6.out.after hk9 (fun i hi e => by have := HG0.out; omega), O, (by rw [HG0.out]; exact HOO.out), .inr (HC.out.keepx _ _ _ HJ6.out (hk9.mono (fun j _ e => ⟨by omega, e.2⟩)))⟩

end Go.Proofs.YtdmlamnonbmboaaGreatDoor
