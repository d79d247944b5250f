/-
  The neighbours of places, one by one: what beside hands out. No conditions beyond those that each theorem bears.
-/
import Derived.Test.YtafiaimlmdflnaaBd
namespace Go.Proofs.Ytafiaimlmdflnaa
open Go.RowKit Go.Shelf

/-- What it has captured: the places, and the board. -/
structure BeR (pb bb W H cb co N bc : Nat) (pa : Option Addr) (pn pc : Nat) (P : List Nat) (V : World) : Prop where
  p : V.cell? ⟨pb, 0, none⟩ = some (.slice pa pn pc)
  b : Hb V bb W H (some ⟨cb, co, none⟩) N bc
  r : Rd V pa pn pc (toI P)

def BeT (pb bb : Nat) (pa : Option Addr) (k : Nat) : Prop := k = pb ∨ k = bb ∨ ∃ off, pa = some ⟨k, off, none⟩

section
variable {pb bb W H cb co N bc : Nat} {pa : Option Addr} {pn pc : Nat} {P : List Nat} {X : Nat → Prop} {V V' : World}
theorem BeR.keeps (h : BeR pb bb W H cb co N bc pa pn pc P V) (hk : Keeps X V V') (hX : ∀ k, BeT pb bb pa k → ¬ X k) : BeR pb bb W H cb co N bc pa pn pc P V' :=
  ⟨hk.cell h.p (hX pb (.inl rfl)), h.b.keeps hk (hX bb (.inr (.inl rfl))), h.r.keeps hk (fun b off e => hX b (.inr (.inr ⟨off, e⟩)))⟩
theorem BeR.lt (h : BeR pb bb W H cb co N bc pa pn pc P V) : ∀ k, BeT pb bb pa k → 0 < pn → k < V.heap.size := by
  rintro k (rfl | rfl | ⟨off, rfl⟩) hn
  · exact World.block_lt_of_cell? V _ h.p
  · exact h.b.lt
  · exact h.r.blt hn
end

theorem beside_any (W H : Nat) (a : Option Addr) (N c : Nat) (pa : Option Addr) (pn pc : Nat) (w : World) : Calls Try.prog 51 #[.agg (gdA W H a N c), .slice pa pn pc] w fun e w' => e = .returned (.func (.func 75) #[] #[.pointer (some ⟨w.heap.size + 1, 0, none⟩), .pointer (some ⟨w.heap.size, 0, none⟩)]) ∧ w' = (w.alloc (.cells (gdA W H a N c) 54)).alloc (.cells #[.slice pa pn pc] 22) := by
  go_enter Try.func51, Try.ntmps51
  go_wp2
  go_ret
  exact ⟨rfl, rfl⟩

theorem BeR.new (W H cb co N bc : Nat) (pa : Option Addr) (pn pc : Nat) (P : List Nat) (w : World) (hR : Rd w pa pn pc (toI P)) : BeR (w.heap.size + 1) w.heap.size W H cb co N bc pa pn pc P ((w.alloc (.cells (gdA W H (some ⟨cb, co, none⟩) N bc) 54)).alloc (.cells #[.slice pa pn pc] 22)) := by
  refine ⟨?_, (Hb.new w W H _ N bc).old _, (hR.alloc _).alloc _⟩
  have := new_cell (w.alloc (.cells (gdA W H (some ⟨cb, co, none⟩) N bc) 54)) (.slice pa pn pc) 22
  rwa [World.size_alloc] at this

/-- The neighbours of the first places. -/
def bes (W H : Nat) (P : List Nat) (j : Nat) : List Nat := (P.take j).flatMap (nb4 W H)

theorem bes_zero (W H : Nat) (P : List Nat) : bes W H P 0 = [] := by simp [bes]
theorem bes_succ (W H : Nat) (P : List Nat) (j : Nat) (hj : j < P.length) : bes W H P (j + 1) = bes W H P j ++ nb4 W H (P.getD j 0) := by
  unfold bes
  rw [List.take_succ_eq_append_getElem hj, List.flatMap_append]
  simp [List.getD, hj]
theorem bes_all (W H : Nat) (P : List Nat) : bes W H P P.length = P.flatMap (nb4 W H) := by simp [bes]
theorem bes_pre (W H : Nat) (P : List Nat) (j : Nat) (hj : j < P.length) : bes W H P j ++ nb4 W H (P.getD j 0) <+: bes W H P P.length := by
  rw [← bes_succ W H P j hj]
  have : ∀ d, bes W H P (j + 1) <+: bes W H P (j + 1 + d) := by
    intro d
    unfold bes
    have e : P.take (j + 1 + d) = P.take (j + 1) ++ (P.drop (j + 1)).take d := List.take_add
    rw [e, List.flatMap_append]
    exact List.prefix_append _ _
  have h := this (P.length - (j + 1))
  rwa [show j + 1 + (P.length - (j + 1)) = P.length by omega] at h

attribute [local irreducible] D4 nb4 bes
attribute [local go_sem] Oper.semAt_some wide_fn wide_fn0 wide_depth

set_option maxRecDepth 100000 in
set_option maxHeartbeats 8000000 in
theorem beside1_o (pb bb W H cb co N bc : Nat) (pa : Option Addr) (pn pc : Nat) (P : List Nat) (hW : 1 ≤ W ∧ W ≤ 10) (hH : 1 ≤ H ∧ H ≤ 10) (hP : ∀ x ∈ P, x < W * H) (hpn : pn ≤ 100) (hp0 : 0 < pn) :
    SeqO Try.prog 75 #[.pointer (some ⟨pb, 0, none⟩), .pointer (some ⟨bb, 0, none⟩)] NbG (P.flatMap (nb4 W H)) (BeR pb bb W H cb co N bc pa pn pc P) (BeT pb bb pa) := by
  intro l J Jx N0 V O0 hR hN hC hY h0
  have hPl : P.length = pn := by have := hR.r.len; rwa [toI_len] at this
  have hOlt := hC.lt _ _ _ h0
  have HO0 : Hid (∀ k, O0 k → k < V.heap.size ∧ ¬ BeT pb bb pa k) := hide hOlt
  have HTL : Hid (∀ k, BeT pb bb pa k → k < V.heap.size) := hide (fun k hk => hR.lt k hk hp0)
  obtain ⟨V1, hV1⟩ : ∃ V1, V.alloc (.cells #[.func (.yield l) #[] #[]] 74) = V1 := ⟨_, rfl⟩
  have B1 : Below V.heap.size V V1 := by rw [← hV1]; exact (Below.refl _ _).alloc (Nat.le_refl _) _
  have s1 : V1.heap.size = V.heap.size + 1 := by rw [← hV1]; simp
  have cy : V1.cell? ⟨V.heap.size, 0, none⟩ = some (.func (.yield l) #[] #[]) := by rw [← hV1]; exact new_cell V _ 74
  have R1 := hR.keeps (X := fun _ => False) (Keeps.of_all B1) (fun _ _ h => h)
  have cp := R1.p
  have HR1 := hide R1
  have HCY := hide cy
  have HS1 := hide s1
  have HJ1 := hide (hC.keep _ _ _ _ h0 (Keeps.of_all B1))
  have HK1 : Hid (Keeps O0 V V1) := hide (Keeps.of_all B1)
  have HY := hide hY
  have HC := hide hC
  have HN := hide hN
  have hpc : pn ≤ pc := hR.r.cap
  have hpm : pc ≤ 9223372036854775807 := by have := hR.r.max; unfold maxLen at this; omega
  have HAL := hide (bes_all W H P)
  rw [hPl] at HAL
  have HSU : Hid (∀ j, j < pn → bes W H P (j + 1) = bes W H P j ++ nb4 W H (P.getD j 0)) := hide (fun j hj => bes_succ W H P j (by omega))
  have HPR : Hid (∀ j, j < pn → bes W H P j ++ nb4 W H (P.getD j 0) <+: bes W H P pn) := hide (fun j hj => by have := bes_pre W H P j (by omega); rwa [hPl] at this)
  have HZE := hide (bes_zero W H P)
  rw [← HAL.out] at HY ⊢
  clear hR hY h0 hC hN hOlt B1 R1 cy s1 HAL
  refine callsIn_of_wp_marks Try.func75 rfl trivial ?_ rfl
  simp only [Try.ntmps75, List.size_toArray, List.length_cons, List.length_nil, Nat.reduceAdd, Nat.reduceSub, Array.replicate_succ, Array.replicate_zero, List.push_toArray, List.append_toArray, List.nil_append, List.cons_append]
  refine wpIn_wide.2 ?_
  go_upto_region 1 with fail
  clear hV1
  go_wp2_with fail
  clear cp
  refine wp_loop (fun a' wr => ∃ (v4 v5 v6 v9 v10 v11 v12 v13 v14 v15 v16 v17 v18 v19 v20 v21 : Value) (ds : List Deferred), (∃ (j : Nat) (O : Nat → Prop), v9 = .int .i64 j ∧ j ≤ pn ∧ Hid (J O (bes W H P j) wr) ∧ Hid (Keeps O0 V wr) ∧ Hid (∀ k, k < V1.heap.size → O k → O0 k) ∧ Hid (BeR pb bb W H cb co N bc pa pn pc P wr) ∧ Hid (wr.cell? ⟨V.heap.size, 0, none⟩ = some (.func (.yield l) #[] #[])) ∧ Hid (V1.heap.size ≤ wr.heap.size) ∧ Hid (MarksO V1.heap.size O wr ds)) ∧ a' = { tmps := #[.func (.yield l) #[] #[], .pointer (some ⟨pb, 0, none⟩), .pointer (some ⟨bb, 0, none⟩), .pointer (some ⟨V.heap.size, 0, none⟩), v4, v5, v6, .slice pa pn pc, .int .i64 pn, v9, v10, v11, v12, v13, v14, v15, v16, v17, v18, v19, v20, v21], defers := ds }) (fun a' _ => pn - (intOf (a'.tmps.getD 9 undef)).toNat) ?start ?round
  case start =>
    refine ⟨_, _, _, _, _, _, _, _, _, _, _, _, _, _, _, _, [], ⟨0, O0, rfl, by omega, hide (by rw [HZE.out]; exact HJ1.out), HK1, hide (fun _ _ h => h), HR1, HCY, hide (Nat.le_refl _), hide (MarksO.nil _ _ _)⟩, rfl⟩
  case round =>
    rintro a0 wr ⟨v4, v5, v6, v9, v10, v11, v12, v13, v14, v15, v16, v17, v18, v19, v20, v21, ds, ⟨j, O, rfl, hjn, hJ, hK, hO, hR, hcy, hsz, hMk⟩, rfl⟩
    clear HJ1 HK1 HR1 HCY
    by_cases hj : j < pn
    · have hj' : (j : Int) < (pn : Int) := by omega
      obtain ⟨prb, pro, rfl, hcell⟩ := hR.out.r.cells hp0
      have cx := hcell j hj
      rw [toI_getD (by omega)] at cx
      have HXN := hide (hP _ (getD_memN (G := P) (show j < P.length by omega)))
      have HSJ := hide (HSU.out j hj)
      have HPJ := hide (HPR.out j hj)
      obtain ⟨x, hx⟩ : ∃ x, P.getD j 0 = x := ⟨_, rfl⟩
      rw [hx] at cx HXN HSJ HPJ
      have hb := hR.out.b
      clear hcell hx
      go_wp2_with (first | (refine wpList_load_hb rfl (.tmp 2) rfl bb rfl hb ?_) | fail)
      refine (neighbours_any x W H N bc cb co _).mono ?_
      rintro e w5 ⟨gb, db, rfl, hN5, hgb, hdb, B5⟩
      have HOL : Hid (∀ k, O k → k < wr.heap.size ∧ ¬ BeT pb bb (some ⟨prb, pro, none⟩) k) := hide (HC.out.lt _ _ _ hJ.out)
      have HJ5 := hide (HC.out.keep _ _ _ _ hJ.out (Keeps.of_all B5))
      have HK5 : Hid (Keeps O0 V w5) := hide (hK.out.trans (Keeps.of_all B5))
      have HR5 := hide (hR.out.keeps (X := fun _ => False) (Keeps.of_all B5) (fun _ _ h => h))
      have HCY5 : Hid (w5.cell? ⟨V.heap.size, 0, none⟩ = some (.func (.yield l) #[] #[])) := hide ((B5.cell (p := ⟨V.heap.size, 0, none⟩) (World.block_lt_of_cell? wr _ hcy.out)).trans hcy.out)
      have HM5 := hide (hMk.out.keeps (O' := O) (Keeps.of_all B5) (fun _ _ h => h))
      have HB5 := hide B5
      have HN5 := hide hN5
      have HGB := hide hgb
      have HDB := hide hdb
      have hs5 : wr.heap.size ≤ w5.heap.size := B5.size
      clear hb cx B5 hN5 hgb hdb hJ hK hR hcy hMk
      go_wp2_with fail
      have HLT := HN5.out.lt
      refine (wpIn_wide (n := 1)).1 (wp_range_o (gf := 87) (lb := #[.pointer (some ⟨gb + 2, 0, none⟩), .pointer (some ⟨gb + 1, 0, none⟩), .pointer (some ⟨gb, 0, none⟩)]) (G := NbG) (xs := nb4 W H x) (R := NbR gb (gb + 1) (gb + 2) db x W H (some ⟨cb, co, none⟩) N bc) (T := NbT gb (gb + 1) (gb + 2) db) (by simp [Act.eval]) (enters_of Try.func87 (by kernel_rfl) rfl)
        (nb1_o gb (gb + 1) (gb + 2) db x W H _ N bc hW hH HXN.out) (fun k hk => HLT k hk) (fun A hA => HN5.out.keeps (X := fun _ => False) (Keeps.of_all hA) (fun _ _ h => h)) (fun x args W' hG => by rw [hG]; rfl)
        (fun O' s W' => J O' (bes W H P j ++ s) W' ∧ W'.cell? ⟨V.heap.size, 0, none⟩ = some (.func (.yield l) #[] #[]) ∧ BeR pb bb W H cb co N bc (some ⟨prb, pro, none⟩) pn pc P W' ∧ (∀ k, k < w5.heap.size → O' k → O k)) (fun d O' W' => d = .ret ∧ Jx O' W' ∧ (∀ k, k < w5.heap.size → O' k → O k)) O ?hC ⟨by rw [List.append_nil]; exact HJ5.out, HCY5.out, HR5.out, fun _ _ h => h⟩ ?round ?done ?stop)
      case hC =>
        intro d
        have z1 := HS1.out
        have z2 := hsz.out
        have z4 := HN.out
        have z6 : ∀ k, NbT gb (gb + 1) (gb + 2) db k → wr.heap.size ≤ k := by
          intro k hk
          have := HGB.out
          have := HDB.out
          unfold NbT at hk
          omega
        refine ⟨?_, ?_, ?_, ?_⟩
        · rintro O' s A ⟨h1, h2, h3, h5⟩ k hk
          refine ⟨(HC.out.lt _ _ _ h1 k hk).1, fun e => ?_⟩
          have := (HOL.out k (h5 k (HLT k e) hk)).1
          have := z6 k e
          omega
        · rintro O' A ⟨_, h1, h5⟩ k hk
          refine ⟨(HC.out.ltx _ _ h1 k hk).1, fun e => ?_⟩
          have := (HOL.out k (h5 k (HLT k e) hk)).1
          have := z6 k e
          omega
        · rintro O' s A B ⟨h1, h2, h3, h5⟩ hk
          exact ⟨HC.out.keep _ _ _ _ h1 (hk.mono (fun k _ e => ⟨by omega, e.2⟩)), hk.cell h2 (fun e => by have := e.1; dsimp only at this; omega), h3.keeps hk (fun k hk' e => by have := HTL.out k hk'; omega), h5⟩
        · rintro O' A B ⟨h0, h1, h5⟩ hk
          exact ⟨h0, HC.out.keepx _ _ _ h1 (hk.mono (fun k _ e => ⟨by omega, e.2⟩)), h5⟩
      case round =>
        rintro l2 O' s y args W6 hl2 ⟨rec, hrec⟩ ⟨hJ6, hy6, hR6, hO6⟩ hOl _ _ hpre hG hsz6
        obtain rfl : args = #[.int .i64 y] := hG
        have HPX : Hid (bes W H P j ++ s ++ [y] <+: bes W H P pn) := hide (by
          rw [List.append_assoc]
          exact ((List.prefix_append_right_inj (bes W H P j)).2 hpre).trans HPJ.out)
        have HJ6 := hide hJ6
        have HY6 := hide hy6
        have HR6 := hide hR6
        have HO6 := hide hO6
        have HSZ6 := hide hsz6
        have HOL2 := hide hOl
        have HL2 := hide hl2
        clear hJ6 hy6 hR6 hO6 hpre hsz6 hrec hOl hl2
        gi_wp2
        refine ⟨Below.refl _ _, ?_⟩
        intro W7 hk7
        have z1 := HS1.out
        have z2 := hsz.out
        have z4 := HN.out
        have z6 := HL2.out
        have z7 := HSZ6.out
        have HJ7 := hide (HC.out.keep _ _ _ _ HJ6.out (hk7.mono (fun k _ e => ⟨by omega, fun h => HOL2.out (e ▸ h)⟩)))
        have cy7 : W7.cell? ⟨V.heap.size, 0, none⟩ = some (.func (.yield l) #[] #[]) := hk7.cell HY6.out (fun e => by dsimp only at e; omega)
        have HR7 := hide (HR6.out.keeps hk7 (fun k hk' e => by have := HTL.out k hk'; omega))
        have HS7 : Hid (w5.heap.size + 2 ≤ W7.heap.size) := hide (Nat.le_trans HSZ6.out hk7.size)
        have HCY7 := hide cy7
        obtain ⟨fn, tmps, assign, body, hy, hRR⟩ := YieldAt.anyD (m' := 0) (HY.out O' (bes W H P j ++ s) y #[.int .i64 (y : Nat)] W7 HJ7.out HPX.out rfl (by have := hk7.size; omega))
        clear hk7 z1 z2 z4 z6 z7 HJ6 HY6 HR6 HJ7
        gi_wp2
        refine (RoundIn.mono (F := Fence.wide.inRound l2) hRR ?_)
        rintro e W8 ⟨hk8, O2, hO2, h8⟩
        have HK8 := hide hk8
        have hm8 : ∀ k, k < W7.heap.size → O2 k → O' k := hO2
        have hw8 : ∀ k, k < w5.heap.size → O2 k → O k := fun k hk h => HO6.out k hk (hO2 k (by have := HS7.out; omega) h)
        have hz : ¬ O' V.heap.size := fun h => by
          have z1 := HS1.out
          have z2 := hsz.out
          have := (HO0.out _ (hO.out _ (by omega) (HO6.out _ (by omega) h))).1
          omega
        have HCY8 : Hid (W8.cell? ⟨V.heap.size, 0, none⟩ = some (.func (.yield l) #[] #[])) := hide (hk8.cell HCY7.out hz)
        have HR8 := hide (HR7.out.keeps hk8 (fun k hk' e => by
          have z1 := HTL.out k hk'
          have z2 := HS1.out
          have z3 := hsz.out
          exact (HO0.out _ (hO.out _ (by omega) (HO6.out _ (by omega) e))).2 hk'))
        clear hy hRR hk8 hz hO2
        rcases h8 with ⟨rfl, h8⟩ | ⟨rfl, h8⟩
        · have H8 := hide h8
          clear h8
          gi_wp2
          exact ⟨HK8.out, O2, hm8, by rw [← List.append_assoc]; exact H8.out, HCY8.out, HR8.out, hw8⟩
        · have H8 := hide h8
          clear h8
          gi_wp2
          exact ⟨HK8.out, O2, hm8, rfl, H8.out, hw8⟩
      case done =>
        rintro D O' W6 hD ⟨hJ6, hy6, hR6, hO6⟩ hk6 hm6 hKD
        have z1 := HS1.out
        have z2 := hsz.out
        have HK6 : Hid (Keeps O0 V W6) := hide (HK5.out.after hk6 (fun i hi h => hO.out i (by omega) h))
        have HO6 : Hid (∀ k, k < V1.heap.size → O' k → O0 k) := hide (fun k hk h => hO.out k hk (hO6 k (by omega) h))
        have HM6 : Hid (MarksO V1.heap.size O' W6 ({ target := .collected D, args := #[] } :: ds)) := hide (HM5.out.push hk6 (fun k hk h => hO6 k hk h) (by omega) (by omega) hKD (fun h => by have := (HOL.out D (hm6 D (by omega) h)).1; omega))
        have HJ6 : Hid (J O' (bes W H P (j + 1)) W6) := hide (by rw [HSJ.out]; exact hJ6)
        have HS6 : Hid (V1.heap.size ≤ W6.heap.size) := hide (by have := hk6.size; omega)
        have HY6 := hide hy6
        have HR6 := hide hR6
        clear hJ6 hy6 hR6 hO6 hk6 hm6 hKD z1 z2 HLT
        go_wp2
        refine ⟨⟨_, _, _, _, _, _, _, _, _, _, _, _, _, _, _, _, _, ⟨j + 1, O', rfl, by omega, HJ6, HK6, HO6, HR6, HY6, HS6, HM6⟩, rfl⟩, ?_⟩
        show pn - ((j : Int) + 1).toNat < pn - ((j : Int)).toNat
        omega
      case stop =>
        rintro d D O' W6 hD ⟨rfl, hJ6, hO6⟩ hk6 hm6 hKD
        have z1 := HS1.out
        have z2 := hsz.out
        have z3 := HN.out
        have HK6 : Hid (Keeps O0 V W6) := hide (HK5.out.after hk6 (fun i hi h => hO.out i (by omega) h))
        have HM6 : Hid (MarksO V1.heap.size O' W6 ({ target := .collected D, args := #[] } :: ds)) := hide (HM5.out.push hk6 (fun k hk h => hO6 k hk h) (by omega) (by omega) hKD (fun h => by have := (HOL.out D (hm6 D (by omega) h)).1; omega))
        have HJ6 := hide hJ6
        have HO6 : Hid (∀ k, k < V.heap.size → O' k → O0 k) := hide (fun k hk h => hO.out k (by omega) (hO6 k (by omega) h))
        clear hJ6 hO6 hk6 hm6 hKD HLT
        refine wpIn_wide.2 ?_
        go_wp2
        refine leaves_marksO HM6.out (fun w9 hk9 => ?_)
        exact ⟨_, results_none rfl _ _ _, ⟨_, rfl⟩, HK6.out.after hk9 (fun i hi e => by have := e.1; omega), O', HO6.out, .inr (HC.out.keepx _ _ _ HJ6.out (hk9.mono (fun k _ e => ⟨by omega, e.2⟩)))⟩
    · obtain rfl : j = pn := by omega
      have z1 := HS1.out
      have z3 := HN.out
      go_wp2_with fail
      refine leaves_marksO hMk.out (fun w9 hk9 => ?_)
      exact ⟨_, results_none rfl _ _ _, ⟨_, rfl⟩, hK.out.after hk9 (fun i hi e => by have := e.1; omega), O, fun k hk h => hO.out k (by omega) h, .inl (HC.out.keep _ _ _ _ hJ.out (hk9.mono (fun k _ e => ⟨by omega, e.2⟩)))⟩

end Go.Proofs.Ytafiaimlmdflnaa
