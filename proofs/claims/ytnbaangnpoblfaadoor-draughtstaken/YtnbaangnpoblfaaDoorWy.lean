/-
  All ways of the mover, in order: what ways hands out. No conditions beyond those that each theorem bears.
-/
import Derived.Test.YtnbaangnpoblfaaDoorSf
import Derived.Laws.EntriesVeiled
namespace Go.Proofs.YtnbaangnpoblfaaDoor
open Go.RowKit Go.Shelf

/-- What 'ways' has captured, and the table that it reads. -/
structure WaR (bb : Nat) (b : Bm) (W : World) : Prop where
  d : DTab W
  v : Vb W bb 60 (bdL b)
def WaT (bb : Nat) (k : Nat) : Prop := k = 0 ∨ k = bb

theorem ways_any (b : Bm) (w : World) : Calls Tryd.prog 35 #[.agg (bdL b).toArray] w fun e w' => e = .returned (.func (.func 60) #[] #[.pointer (some ⟨w.heap.size, 0, none⟩)]) ∧ w' = w.alloc (.cells (bdL b).toArray 60) := by
  generalize (bdL b).toArray = A
  go_enter Tryd.func35, Tryd.ntmps35
  go_wp2
  go_ret
  exact ⟨rfl, rfl⟩

def wyF (b : Bm) (s : List Nat) : List Wy := s.flatMap fun i => way1 b (2 ^ i)
theorem wyF_snoc (b : Bm) (s : List Nat) (i : Nat) : wyF b (s ++ [i]) = wyF b s ++ way1 b (2 ^ i) := by unfold wyF; rw [List.flatMap_append]; simp
theorem wyF_pre {b : Bm} {s u : List Nat} (h : s <+: u) : wyF b s <+: wyF b u := flatMap_pre _ h

/-- What 'goOn' does at a beginning. -/
def GoOn (b : Bm) (g : Nat) : Prop :=
  ∀ x, x ∈ bln b.own 64 → ∀ (l : Nat) (J : (Nat → Prop) → List Wy → World → Prop) (Jx : (Nat → Prop) → World → Prop) (N0 : Nat) (T : Nat → Prop) (w : World) (O0 : Nat → Prop) (pre xs : List Wy), DTab w → T 0 → N0 ≤ w.heap.size → Cons J Jx N0 T → Rnd Tryd.prog l J Jx N0 WyG xs →
    (pre ++ way1 b (2 ^ x)) <+: xs → J O0 pre w →
    Calls Tryd.prog g #[.agg (bdL b).toArray, .agg (wyL [2 ^ x] 0).toArray, .func (.yield l) #[] #[]] w fun e w' => Keeps O0 w w' ∧ ∃ O', (∀ k, k < w.heap.size → O' k → O0 k) ∧
      ((e = .returned (.bool true) ∧ J O' (pre ++ way1 b (2 ^ x)) w') ∨ (e = .returned (.bool false) ∧ Jx O' w'))

theorem sub_pow {x y : Nat} (h : y.testBit x = true) : Sub (2 ^ x) y := fun i hi => by
  rw [Nat.testBit_two_pow, decide_eq_true_eq] at hi
  rw [← hi]; exact h

theorem goOn_jump (b : Bm) (hb : BOk b) (hj : b.jms = true) : GoOn b 63 := by
  intro x hx l J Jx N0 T w O0 pre xs
  have hxo := (mem_bln.1 hx).2
  have hI : JI b [2 ^ x] 0 13 := ⟨rfl, by simp, by simp [bln], Sub.zero _, by show Sub (2 ^ x) ALL; exact (sub_pow hxo).trans hb.own, by show Sub (2 ^ x) ALL; exact (sub_pow hxo).trans hb.own, one_pow x⟩
  have := jumpOn_all b hb 13 [2 ^ x] 0 hI l J Jx N0 T w O0 pre xs
  have e : jmp b 13 [2 ^ x] 0 = way1 b (2 ^ x) := by unfold way1; rw [if_pos hj]
  rw [e] at this
  exact this

theorem goOn_step (b : Bm) (hb : BOk b) (hj : b.jms = false) : GoOn b 61 := by
  intro x hx l J Jx N0 T w O0 pre xs
  have hxo := (mem_bln.1 hx).2
  have := stepFrom_all b hb (2 ^ x) ((sub_pow hxo).trans hb.own) l J Jx N0 T w O0 pre xs
  have e : stF b (2 ^ x) = way1 b (2 ^ x) := by unfold way1; rw [if_neg (by rw [hj]; simp)]
  rw [e] at this
  exact this

attribute [local irreducible] bln wyL bdL way1 ways wyF Bm.jms
attribute [local go_sem] Oper.semAt_some wide_fn wide_fn0 wide_depth

set_option maxRecDepth 100000 in
set_option maxHeartbeats 8000000 in
theorem ways1_jump (b : Bm) (hb : BOk b) (bb : Nat) (hj : b.jms = true) :
    SeqO Tryd.prog 60 #[.pointer (some ⟨bb, 0, none⟩)] WyG (ways b) (WaR bb b) (WaT bb) := by
  intro l J Jx N0 W O0 hR hN hC hY h0
  have HGN := hide (goOn_jump b hb hj)
  have HJM := hide (fun W' hd => jumps_any b hb W' hd)
  rw [hj] at HJM
  have HWF : Hid (ways b = wyF b (bln b.own 64)) := hide (by unfold ways wyF; rfl)
  have HSN := hide (wyF_snoc b)
  have HPF : Hid (∀ s u, s <+: u → wyF b s <+: wyF b u) := hide (fun s u h => wyF_pre h)
  have HNIL : Hid (wyF b [] = []) := hide (by unfold wyF; rfl)
  have HO64 := hide hb.own.lt64
  have hOlt := hC.lt _ _ _ h0
  have HO0 : Hid (∀ k, O0 k → k < W.heap.size ∧ k ≠ 0 ∧ k ≠ bb) := hide (fun k hk => ⟨(hOlt k hk).1, fun e => (hOlt k hk).2 (Or.inl e), fun e => (hOlt k hk).2 (Or.inr e)⟩)
  have HBB : Hid (bb < W.heap.size ∧ 0 < W.heap.size) := hide ⟨hR.v.lt, hR.d.lt⟩
  obtain ⟨RS, hRS⟩ : ∃ RS, ways b = RS := ⟨_, rfl⟩
  rw [hRS] at hY HWF ⊢
  obtain ⟨W1, hW1⟩ : ∃ W1, W.alloc (.cells #[.func (.yield l) #[] #[]] 90) = W1 := ⟨_, rfl⟩
  have B1 : Below W.heap.size W W1 := by rw [← hW1]; exact (Below.refl _ _).alloc (Nat.le_refl _) _
  have s1 : W1.heap.size = W.heap.size + 1 := by rw [← hW1]; simp
  have V1 := hR.v.mono B1
  have D1 := hR.d.mono B1
  have cy : W1.cell? ⟨W.heap.size, 0, none⟩ = some (.func (.yield l) #[] #[]) := by rw [← hW1]; exact new_cell W _ 90
  have HB1 := hide B1
  have HV1 := hide V1
  have HD1 := hide D1
  have HCY := hide cy
  have HS1 := hide s1
  have HY := hide hY
  have HC := hide hC
  have HJ0 := hide h0
  have HN := hide hN
  clear hR hY h0 hC hN hOlt B1 V1 D1 cy s1 hb hj hRS
  refine callsIn_of_wp_marks Tryd.func60 rfl trivial ?_ rfl
  simp only [Tryd.ntmps60, List.size_toArray, List.length_cons, List.length_nil, Nat.reduceAdd, Nat.reduceSub, Array.replicate_succ, Array.replicate_zero, List.push_toArray, List.append_toArray, List.nil_append, List.cons_append]
  refine wpIn_wide.2 ?_
  go_upto_region 1 with fail
  clear hW1
  go_upto_region 2 with (refine wpList_load_bd rfl (.tmp 1) rfl bb rfl HV1.out ?_)
  obtain ⟨W2, hW2⟩ : ∃ W2, W1.alloc (.cells #[.func (.func 61) #[.agg (bdL b).toArray] #[]] 91) = W2 := ⟨_, rfl⟩
  have B2 : Below W1.heap.size W1 W2 := by rw [← hW2]; exact (Below.refl _ _).alloc (Nat.le_refl _) _
  have s2 : W2.heap.size = W1.heap.size + 1 := by rw [← hW2]; simp
  have cg : W2.cell? ⟨W1.heap.size, 0, none⟩ = some (.func (.func 61) #[.agg (bdL b).toArray] #[]) := by rw [← hW2]; exact new_cell W1 _ 91
  have fg : W2.frozen? ⟨W1.heap.size, 0, none⟩ = false := by
    have h1 : W2.heap[W1.heap.size]? = some (.cells #[.func (.func 61) #[.agg (bdL b).toArray] #[]] 91 (0, 0)) := by rw [← hW2]; exact heap_alloc_new W1 _
    simp [World.frozen?, h1]
  have V2 := HV1.out.mono B2
  have HV2 := hide V2
  have HD2 := hide (HD1.out.mono B2)
  have HB2 := hide B2
  have HCY2 := hide ((B2.cell (p := ⟨W.heap.size, 0, none⟩) (World.block_lt_of_cell? W1 _ HCY.out)).trans HCY.out)
  rw [hW2]
  have HS2 := hide s2
  have HCG := hide cg
  have HFG := hide fg
  clear hW2 B2 s2 cg fg
  go_wp2_with (refine wpList_load_bd rfl (.tmp 1) rfl bb rfl V2 ?_)
  refine (HJM.out _ HD2.out).mono ?_
  rintro e W3 ⟨rfl, hb3⟩
  have HB3 := hide hb3
  have V3 := HV2.out.mono hb3
  have HV3 := hide V3
  have HD3 := hide (HD2.out.mono hb3)
  have HCY3 := hide ((hb3.cell (p := ⟨W.heap.size, 0, none⟩) (World.block_lt_of_cell? W2 _ HCY2.out)).trans HCY2.out)
  have cg3 := (hb3.cell (p := ⟨W1.heap.size, 0, none⟩) (World.block_lt_of_cell? W2 _ HCG.out)).trans HCG.out
  have fg3 := (hb3.frozen (p := ⟨W1.heap.size, 0, none⟩) (World.block_lt_of_cell? W2 _ HCG.out)).trans HFG.out
  clear hb3 V2
  go_upto_region 4 with (refine wpList_load_bd rfl (.tmp 1) rfl bb rfl V3 ?_)
  obtain ⟨W4, hW4⟩ : ∃ W4, W3.setCell ⟨W1.heap.size, 0, none⟩ (.func (.func 63) #[.agg (bdL b).toArray] #[]) = W4 := ⟨_, rfl⟩
  have K34 : Keeps (fun k => k = W1.heap.size) W3 W4 := by rw [← hW4]; exact Keeps.set1 W3 W1.heap.size 0 _
  have cg4 : W4.cell? ⟨W1.heap.size, 0, none⟩ = some (.func (.func 63) #[.agg (bdL b).toArray] #[]) := by rw [← hW4]; exact World.cell?_setCell_same _ _ _ cg3
  rw [hW4]
  clear hW4 cg3 fg3 V3
  have hs1 := HS1.out
  have hs2 := HS2.out
  have hbb := HBB.out
  have V4 := HV3.out.keeps K34 (by omega)
  have D4 := HD3.out.keeps K34 (by omega)
  have cy4 := K34.cell HCY3.out (by show ¬ W.heap.size = W1.heap.size; omega)
  have KW4 : Keeps (fun _ => False) W W4 := by
    have k1 : Keeps (fun k => k = W1.heap.size) W W4 := (((Keeps.of_all HB1.out).trans (Keeps.of_all HB2.out)).trans (Keeps.of_all HB3.out)).trans K34
    exact k1.mono (fun k hk e => by omega)
  have s4 : W1.heap.size + 1 ≤ W4.heap.size := by have := K34.size; have := HB3.out.size; omega
  have c0 := V4.cell (i := 0) (v := .int .u64 (b.own : Nat)) (by unfold bdL; rfl)
  have HV4 := hide V4
  have HD4 := hide D4
  have HCY4 := hide cy4
  have HCG4 := hide cg4
  have HKW4 := hide KW4
  have HS4 := hide s4
  clear hs1 hs2 hbb V4 D4 cy4 cg4 KW4 s4 K34 HV3 HD3 HCY3 HB1 HB2 HB3 HCY2 HCG HFG HV2 HD2 HV1 HD1 HCY HJM
  go_wp2_with fail
  refine (each_any b.own _).mono ?_
  rintro e W5 ⟨rfl, hW5⟩
  have B5 : Below W4.heap.size W4 W5 := by rw [hW5]; exact (Below.refl _ _).alloc (Nat.le_refl _) _
  have s5 : W5.heap.size = W4.heap.size + 1 := by rw [hW5]; simp
  have ce : EaR W4.heap.size b.own W5 := by rw [hW5]; exact new_cell W4 _ 58
  have HV5 := hide (HV4.out.mono B5)
  have HD5 := hide (HD4.out.mono B5)
  have HCY5 := hide ((B5.cell (p := ⟨W.heap.size, 0, none⟩) (World.block_lt_of_cell? W4 _ HCY4.out)).trans HCY4.out)
  have HCG5 := hide ((B5.cell (p := ⟨W1.heap.size, 0, none⟩) (World.block_lt_of_cell? W4 _ HCG4.out)).trans HCG4.out)
  have HKW5 : Hid (Keeps (fun _ => False) W W5) := hide (HKW4.out.trans (Keeps.of_all B5))
  have HJ5 := hide (HC.out.keep _ _ _ _ HJ0.out (HKW5.out.mono (fun _ _ e => e.elim)))
  have HS5 := hide s5
  have HCE := hide ce
  clear hW5 B5 s5 ce c0 HV4 HD4 HCY4 HCG4 HKW4
  go_wp2_with fail
  refine (wpIn_wide (n := 1)).1 (wp_range_o (gf := 83) (lb := #[.pointer (some ⟨W4.heap.size, 0, none⟩)]) (G := EaG) (xs := bln b.own 64) (R := EaR W4.heap.size b.own) (T := fun k => k = W4.heap.size) (by simp [Act.eval]) (enters_of Tryd.func83 (by kernel_rfl) rfl)
    (each1_o W4.heap.size b.own HO64.out) (fun k hk => by have := HS5.out; omega) (fun A hA => (hA.cell (p := ⟨W4.heap.size, 0, none⟩) (by have := HS5.out; show W4.heap.size < _; omega)).trans HCE.out) (fun x args W' hG => by rw [hG]; rfl)
    (fun O s W' => J O (wyF b s) W' ∧ W'.cell? ⟨W.heap.size, 0, none⟩ = some (.func (.yield l) #[] #[]) ∧ W'.cell? ⟨W1.heap.size, 0, none⟩ = some (.func (.func 63) #[.agg (bdL b).toArray] #[]) ∧ DTab W' ∧ (∀ k, k < W5.heap.size → O k → O0 k)) (fun d O W' => d = .ret ∧ Jx O W' ∧ (∀ k, k < W5.heap.size → O k → O0 k)) O0 ?hC ⟨by rw [HNIL.out]; exact HJ5.out, HCY5.out, HCG5.out, HD5.out, fun _ _ h => h⟩ ?round ?done ?stop)
  case hC =>
    intro d
    refine ⟨?_, ?_, ?_, ?_⟩
    · rintro O s A ⟨h1, h2, h3, h4, h5⟩ k hk
      refine ⟨(HC.out.lt _ _ _ h1 k hk).1, fun e => ?_⟩
      have := (HO0.out k (h5 k (by have := HS5.out; omega) hk)).1
      have := HS4.out; have := HS1.out
      omega
    · rintro O A ⟨_, h1, h5⟩ k hk
      refine ⟨(HC.out.ltx _ _ h1 k hk).1, fun e => ?_⟩
      have := (HO0.out k (h5 k (by have := HS5.out; omega) hk)).1
      have := HS4.out; have := HS1.out
      omega
    · rintro O s A B ⟨h1, h2, h3, h4, h5⟩ hk
      have z1 := HS4.out
      have z2 := HS1.out
      have z3 := HS5.out
      have z4 := HN.out
      have z5 := HBB.out
      exact ⟨HC.out.keep _ _ _ _ h1 (hk.mono (fun k _ e => ⟨by omega, e.2⟩)), hk.cell h2 (fun e => by have := e.1; dsimp only at this; omega), hk.cell h3 (fun e => by have := e.1; dsimp only at this; omega), h4.keeps hk (fun e => by omega), h5⟩
    · rintro O A B ⟨h0, h1, h5⟩ hk
      have z1 := HS4.out
      have z2 := HS1.out
      have z3 := HS5.out
      have z4 := HN.out
      exact ⟨h0, HC.out.keepx _ _ _ h1 (hk.mono (fun k _ e => ⟨by omega, e.2⟩)), h5⟩
  case round =>
    rintro l2 O s x args W6 hl2 ⟨rec, hrec⟩ ⟨hJ6, hy6, hg6, hD6, hO6⟩ hOl _ hOm hpre hG hsz6
    have hx := hpre.subset (show x ∈ s ++ [x] by simp)
    obtain rfl : args = #[.int .u64 (2 ^ x : Nat)] := hG
    have HPX : Hid ((wyF b s ++ way1 b (2 ^ x)) <+: RS) := hide (by rw [← HSN.out, HWF.out]; exact HPF.out _ _ hpre)
    have HGX := hide (HGN.out x hx l J Jx N0 (WaT bb))
    have HSX := hide (HSN.out s x)
    have HBE := hide (fun W' => begun_any (2 ^ x) W')
    obtain ⟨K2, hK2⟩ : ∃ K2, (2 ^ x : Nat) = K2 := ⟨_, rfl⟩
    rw [hK2] at HGX HBE HPX HSX ⊢
    have HJ6 := hide hJ6
    have HY6 := hide hy6
    have HG6 := hide hg6
    have HD6 := hide hD6
    have HO6 := hide hO6
    have HSZ6 := hide hsz6
    have HOL := hide hOl
    have HL2 := hide hl2
    clear hJ6 hy6 hg6 hD6 hO6 hpre hsz6 hrec hK2 hx hOl hOm hl2
    gi_wp2
    refine ⟨Below.refl _ _, ?_⟩
    intro W7 hk7
    have z1 := HS4.out
    have z2 := HS1.out
    have z3 := HS5.out
    have z4 := HN.out
    have z5 := HBB.out
    have z6 := HL2.out
    have z7 := HSZ6.out
    have HJ7 := hide (HC.out.keep _ _ _ _ HJ6.out (hk7.mono (fun k _ e => ⟨by omega, fun h => HOL.out (e ▸ h)⟩)))
    have HY7 : Hid (W7.cell? ⟨W.heap.size, 0, none⟩ = some (.func (.yield l) #[] #[])) := hide (hk7.cell HY6.out (fun e => by dsimp only at e; omega))
    have HG7 : Hid (W7.cell? ⟨W1.heap.size, 0, none⟩ = some (.func (.func 63) #[.agg (bdL b).toArray] #[])) := hide (hk7.cell HG6.out (fun e => by dsimp only at e; omega))
    have HD7 := hide (HD6.out.keeps hk7 (fun e => by omega))
    have HS7 : Hid (W5.heap.size + 2 ≤ W7.heap.size) := hide (Nat.le_trans HSZ6.out hk7.size)
    clear hk7 z1 z2 z3 z4 z5 z6 z7 HJ6 HY6 HG6 HD6
    gi_wp2
    refine wp_region_round (S := fun W8 => W8.cell? ⟨W.heap.size, 0, none⟩ = some (.func (.yield l) #[] #[]) ∧ W8.cell? ⟨W1.heap.size, 0, none⟩ = some (.func (.func 63) #[.agg (bdL b).toArray] #[])) (by kernel_rfl) (by kernel_rfl) (by rintro ⟨_, _, h⟩; exact h) ?_
    have SW : W7.drew.cell? ⟨W.heap.size, 0, none⟩ = some (.func (.yield l) #[] #[]) ∧ W7.drew.cell? ⟨W1.heap.size, 0, none⟩ = some (.func (.func 63) #[.agg (bdL b).toArray] #[]) := ⟨HY7.out, HG7.out⟩
    refine wpAnyH_take (i := 0) (v := .func (.func 63) #[.agg (bdL b).toArray] #[]) rfl (by kernel_rfl) (by kernel_rfl) (by kernel_rfl) (fun _ _ _ h => h) (Or.inl ⟨by rfl, ?_⟩) SW ?_
    · intro W4 hW4
      have x0 := hW4.2
      go_simp <;> first | done | rfl | (rw [IntKind.wrap_i64]; omega) | omega
    go_simp
    refine wpAnyH_take (i := 1) (v := .int .u64 (K2 : Nat)) rfl (by kernel_rfl) (by kernel_rfl) (by kernel_rfl) (fun _ _ _ h => h) (Or.inl ⟨by rfl, ?_⟩) SW ?_
    · intro W4 hW4
      go_simp <;> first | done | rfl | (rw [IntKind.wrap_i64]; omega) | omega
    go_simp
    refine wpAnyH_take (i := 3) (v := .func (.yield l) #[] #[]) rfl (by kernel_rfl) (by kernel_rfl) (by kernel_rfl) (fun _ _ _ h => h) (Or.inl ⟨by rfl, ?_⟩) SW ?_
    · intro W4 hW4
      have x0 := hW4.1
      go_simp <;> first | done | rfl | (rw [IntKind.wrap_i64]; omega) | omega
    go_simp
    refine wpAnyH_ready (rs := [2]) (by kernel_rfl) (by simp) ?_
    refine AllReadyH.cons rfl (fun K1 hK1 => ?_) AllReadyH.nil
    go_simp
    refine (HBE.out _).mono ?_
    rintro r W8 ⟨rfl, hb8⟩
    have B8 : Below W7.heap.size W7 W8 := (Below.refl _ W7).drew.trans hb8
    have S8 : W8.cell? ⟨W.heap.size, 0, none⟩ = some (.func (.yield l) #[] #[]) ∧ W8.cell? ⟨W1.heap.size, 0, none⟩ = some (.func (.func 63) #[.agg (bdL b).toArray] #[]) := ⟨(B8.cell (p := ⟨W.heap.size, 0, none⟩) (World.block_lt_of_cell? W7 _ HY7.out)).trans HY7.out, (B8.cell (p := ⟨W1.heap.size, 0, none⟩) (World.block_lt_of_cell? W7 _ HG7.out)).trans HG7.out⟩
    refine hK1.out _ _ S8 (fun SW => ?_)
    clear hK1 K1 hb8
    go_simp
    refine wpAnyH_ready (rs := [4]) (by kernel_rfl) (by simp) ?_
    refine AllReadyH.cons rfl (fun K1 hK1 => ?_) AllReadyH.nil
    go_simp
    have J8 := HC.out.keep _ _ _ _ HJ7.out (Keeps.of_all B8)
    refine (HGX.out W8 O _ RS (HD7.out.mono B8) (Or.inl rfl) (by have := B8.size; have := HS7.out; have := HS5.out; have := HS4.out; have := HS1.out; have := HN.out; omega) HC.out HY.out HPX.out J8).mono ?_
    rintro r W9 ⟨hk9, O', hO', h9⟩
    have K9 : Keeps O W7 W9 := (Keeps.of_all B8).trans hk9
    have hOW : ∀ k, k < W5.heap.size → O' k → O0 k := fun k hk h => HO6.out k hk (hO' k (by have := B8.size; have := HS7.out; omega) h)
    have hm9 : ∀ k, k < W7.heap.size → O' k → O k := fun k hk h => hO' k (by have := B8.size; omega) h
    have S9 : W9.cell? ⟨W.heap.size, 0, none⟩ = some (.func (.yield l) #[] #[]) ∧ W9.cell? ⟨W1.heap.size, 0, none⟩ = some (.func (.func 63) #[.agg (bdL b).toArray] #[]) := by
      have z1 := HS4.out
      have z2 := HS1.out
      have z3 := HS5.out
      exact ⟨K9.cell HY7.out (fun h => by have := (HO0.out _ (HO6.out _ (by dsimp only; omega) h)).1; dsimp only at this; omega), K9.cell HG7.out (fun h => by have := (HO0.out _ (HO6.out _ (by dsimp only; omega) h)).1; dsimp only at this; omega)⟩
    have HD9 : Hid (DTab W9) := hide (HD7.out.keeps K9 (fun h => (HO0.out _ (HO6.out _ (by have := HBB.out; have := HS5.out; have := HS4.out; have := HS1.out; omega) h)).2.1 rfl))
    have HK9 := hide K9
    have HOW := hide hOW
    have HM9 := hide hm9
    have HS9 := hide S9
    clear J8 B8 hk9 hO' K9 hOW hm9
    rcases h9 with ⟨rfl, h9⟩ | ⟨rfl, h9⟩
    · refine hK1.out _ _ S9 (fun SW => ?_)
      have H9 := hide h9
      clear hK1 K1 h9 S9
      go_simp
      refine wpAnyH_take (i := 5) (v := .bool false) rfl (by kernel_rfl) (by kernel_rfl) (by kernel_rfl) (fun _ _ _ h => h) (Or.inl ⟨by rfl, ?_⟩) SW ?_
      · intro W4 hW4
        go_simp <;> first | done | rfl | (rw [IntKind.wrap_i64]; omega) | omega
      go_simp
      refine wpAnyH_done (by kernel_rfl) ?_ _
      clear SW
      gi_wp2
      exact ⟨HK9.out, O', HM9.out, by rw [HSX.out]; exact H9.out, HS9.out.1, HS9.out.2, HD9.out, HOW.out⟩
    · refine hK1.out _ _ S9 (fun SW => ?_)
      have H9 := hide h9
      clear hK1 K1 h9 S9
      go_simp
      refine wpAnyH_take (i := 5) (v := .bool true) rfl (by kernel_rfl) (by kernel_rfl) (by kernel_rfl) (fun _ _ _ h => h) (Or.inl ⟨by rfl, ?_⟩) SW ?_
      · intro W4 hW4
        go_simp <;> first | done | rfl | (rw [IntKind.wrap_i64]; omega) | omega
      go_simp
      refine wpAnyH_done (by kernel_rfl) ?_ _
      clear SW
      gi_wp2
      exact ⟨HK9.out, O', HM9.out, rfl, H9.out, HOW.out⟩
  case done =>
    rintro D O W6 hD ⟨hJ6, _, _, _, hO6⟩ hk6 hm6 hK
    have z1 := HS4.out
    have z2 := HS1.out
    have z3 := HS5.out
    have z4 := HN.out
    go_wp2
    refine ⟨by simp, .inl ⟨_, _, rfl, run_takeDeferred hK, ?_⟩⟩
    refine ⟨_, results_none rfl _ _ _, ⟨_, rfl⟩, ((HKW5.out.mono (fun _ _ e => e.elim)).chain hk6 (fun _ _ h => h)).thenPut (by omega) _, O, fun k hk h => hO6 k (by omega) h, .inl ?_⟩
    rw [HWF.out]
    refine HC.out.keep _ _ _ _ hJ6 (Keeps.put (Keeps.refl _ W6) ⟨by omega, fun h => ?_⟩ _)
    have := (HO0.out _ (hm6 _ (by omega) h)).1
    omega
  case stop =>
    rintro d D O W6 hD ⟨rfl, hJ6, hO6⟩ hk6 hm6 hK
    have z1 := HS4.out
    have z2 := HS1.out
    have z3 := HS5.out
    have z4 := HN.out
    refine wpIn_wide.2 ?_
    go_wp2
    refine ⟨by simp, .inl ⟨_, _, rfl, run_takeDeferred hK, ?_⟩⟩
    refine ⟨_, results_none rfl _ _ _, ⟨_, rfl⟩, ((HKW5.out.mono (fun _ _ e => e.elim)).chain hk6 (fun _ _ h => h)).thenPut (by omega) _, O, fun k hk h => hO6 k (by omega) h, .inr ?_⟩
    refine HC.out.keepx _ _ _ hJ6 (Keeps.put (Keeps.refl _ W6) ⟨by omega, fun h => ?_⟩ _)
    have := (HO0.out _ (hm6 _ (by omega) h)).1
    omega

set_option maxRecDepth 100000 in
set_option maxHeartbeats 8000000 in
theorem ways1_step (b : Bm) (hb : BOk b) (bb : Nat) (hj : b.jms = false) :
    SeqO Tryd.prog 60 #[.pointer (some ⟨bb, 0, none⟩)] WyG (ways b) (WaR bb b) (WaT bb) := by
  intro l J Jx N0 W O0 hR hN hC hY h0
  have HGN := hide (goOn_step b hb hj)
  have HJM := hide (fun W' hd => jumps_any b hb W' hd)
  rw [hj] at HJM
  have HWF : Hid (ways b = wyF b (bln b.own 64)) := hide (by unfold ways wyF; rfl)
  have HSN := hide (wyF_snoc b)
  have HPF : Hid (∀ s u, s <+: u → wyF b s <+: wyF b u) := hide (fun s u h => wyF_pre h)
  have HNIL : Hid (wyF b [] = []) := hide (by unfold wyF; rfl)
  have HO64 := hide hb.own.lt64
  have hOlt := hC.lt _ _ _ h0
  have HO0 : Hid (∀ k, O0 k → k < W.heap.size ∧ k ≠ 0 ∧ k ≠ bb) := hide (fun k hk => ⟨(hOlt k hk).1, fun e => (hOlt k hk).2 (Or.inl e), fun e => (hOlt k hk).2 (Or.inr e)⟩)
  have HBB : Hid (bb < W.heap.size ∧ 0 < W.heap.size) := hide ⟨hR.v.lt, hR.d.lt⟩
  obtain ⟨RS, hRS⟩ : ∃ RS, ways b = RS := ⟨_, rfl⟩
  rw [hRS] at hY HWF ⊢
  obtain ⟨W1, hW1⟩ : ∃ W1, W.alloc (.cells #[.func (.yield l) #[] #[]] 90) = W1 := ⟨_, rfl⟩
  have B1 : Below W.heap.size W W1 := by rw [← hW1]; exact (Below.refl _ _).alloc (Nat.le_refl _) _
  have s1 : W1.heap.size = W.heap.size + 1 := by rw [← hW1]; simp
  have V1 := hR.v.mono B1
  have D1 := hR.d.mono B1
  have cy : W1.cell? ⟨W.heap.size, 0, none⟩ = some (.func (.yield l) #[] #[]) := by rw [← hW1]; exact new_cell W _ 90
  have HB1 := hide B1
  have HV1 := hide V1
  have HD1 := hide D1
  have HCY := hide cy
  have HS1 := hide s1
  have HY := hide hY
  have HC := hide hC
  have HJ0 := hide h0
  have HN := hide hN
  clear hR hY h0 hC hN hOlt B1 V1 D1 cy s1 hb hj hRS
  refine callsIn_of_wp_marks Tryd.func60 rfl trivial ?_ rfl
  simp only [Tryd.ntmps60, List.size_toArray, List.length_cons, List.length_nil, Nat.reduceAdd, Nat.reduceSub, Array.replicate_succ, Array.replicate_zero, List.push_toArray, List.append_toArray, List.nil_append, List.cons_append]
  refine wpIn_wide.2 ?_
  go_upto_region 1 with fail
  clear hW1
  go_upto_region 2 with (refine wpList_load_bd rfl (.tmp 1) rfl bb rfl HV1.out ?_)
  obtain ⟨W2, hW2⟩ : ∃ W2, W1.alloc (.cells #[.func (.func 61) #[.agg (bdL b).toArray] #[]] 91) = W2 := ⟨_, rfl⟩
  have B2 : Below W1.heap.size W1 W2 := by rw [← hW2]; exact (Below.refl _ _).alloc (Nat.le_refl _) _
  have s2 : W2.heap.size = W1.heap.size + 1 := by rw [← hW2]; simp
  have cg : W2.cell? ⟨W1.heap.size, 0, none⟩ = some (.func (.func 61) #[.agg (bdL b).toArray] #[]) := by rw [← hW2]; exact new_cell W1 _ 91
  have fg : W2.frozen? ⟨W1.heap.size, 0, none⟩ = false := by
    have h1 : W2.heap[W1.heap.size]? = some (.cells #[.func (.func 61) #[.agg (bdL b).toArray] #[]] 91 (0, 0)) := by rw [← hW2]; exact heap_alloc_new W1 _
    simp [World.frozen?, h1]
  have V2 := HV1.out.mono B2
  have HV2 := hide V2
  have HD2 := hide (HD1.out.mono B2)
  have HB2 := hide B2
  have HCY2 := hide ((B2.cell (p := ⟨W.heap.size, 0, none⟩) (World.block_lt_of_cell? W1 _ HCY.out)).trans HCY.out)
  rw [hW2]
  have HS2 := hide s2
  have HCG := hide cg
  have HFG := hide fg
  clear hW2 B2 s2 cg fg
  go_wp2_with (refine wpList_load_bd rfl (.tmp 1) rfl bb rfl V2 ?_)
  refine (HJM.out _ HD2.out).mono ?_
  rintro e W3 ⟨rfl, hb3⟩
  have HB3 := hide hb3
  have V3 := HV2.out.mono hb3
  have HV3 := hide V3
  have HD3 := hide (HD2.out.mono hb3)
  have HCY3 := hide ((hb3.cell (p := ⟨W.heap.size, 0, none⟩) (World.block_lt_of_cell? W2 _ HCY2.out)).trans HCY2.out)
  have cg3 := (hb3.cell (p := ⟨W1.heap.size, 0, none⟩) (World.block_lt_of_cell? W2 _ HCG.out)).trans HCG.out
  have fg3 := (hb3.frozen (p := ⟨W1.heap.size, 0, none⟩) (World.block_lt_of_cell? W2 _ HCG.out)).trans HFG.out
  clear hb3 V2
  go_upto_region 4 with fail
  obtain ⟨W4, hW4⟩ : ∃ W4, W3 = W4 := ⟨_, rfl⟩
  have K34 : Keeps (fun k => k = W1.heap.size) W3 W4 := by rw [← hW4]; exact Keeps.refl _ _
  have cg4 : W4.cell? ⟨W1.heap.size, 0, none⟩ = some (.func (.func 61) #[.agg (bdL b).toArray] #[]) := by rw [← hW4]; exact cg3
  rw [hW4]
  clear hW4 cg3 fg3 V3
  have hs1 := HS1.out
  have hs2 := HS2.out
  have hbb := HBB.out
  have V4 := HV3.out.keeps K34 (by omega)
  have D4 := HD3.out.keeps K34 (by omega)
  have cy4 := K34.cell HCY3.out (by show ¬ W.heap.size = W1.heap.size; omega)
  have KW4 : Keeps (fun _ => False) W W4 := by
    have k1 : Keeps (fun k => k = W1.heap.size) W W4 := (((Keeps.of_all HB1.out).trans (Keeps.of_all HB2.out)).trans (Keeps.of_all HB3.out)).trans K34
    exact k1.mono (fun k hk e => by omega)
  have s4 : W1.heap.size + 1 ≤ W4.heap.size := by have := K34.size; have := HB3.out.size; omega
  have c0 := V4.cell (i := 0) (v := .int .u64 (b.own : Nat)) (by unfold bdL; rfl)
  have HV4 := hide V4
  have HD4 := hide D4
  have HCY4 := hide cy4
  have HCG4 := hide cg4
  have HKW4 := hide KW4
  have HS4 := hide s4
  clear hs1 hs2 hbb V4 D4 cy4 cg4 KW4 s4 K34 HV3 HD3 HCY3 HB1 HB2 HB3 HCY2 HCG HFG HV2 HD2 HV1 HD1 HCY HJM
  go_wp2_with fail
  refine (each_any b.own _).mono ?_
  rintro e W5 ⟨rfl, hW5⟩
  have B5 : Below W4.heap.size W4 W5 := by rw [hW5]; exact (Below.refl _ _).alloc (Nat.le_refl _) _
  have s5 : W5.heap.size = W4.heap.size + 1 := by rw [hW5]; simp
  have ce : EaR W4.heap.size b.own W5 := by rw [hW5]; exact new_cell W4 _ 58
  have HV5 := hide (HV4.out.mono B5)
  have HD5 := hide (HD4.out.mono B5)
  have HCY5 := hide ((B5.cell (p := ⟨W.heap.size, 0, none⟩) (World.block_lt_of_cell? W4 _ HCY4.out)).trans HCY4.out)
  have HCG5 := hide ((B5.cell (p := ⟨W1.heap.size, 0, none⟩) (World.block_lt_of_cell? W4 _ HCG4.out)).trans HCG4.out)
  have HKW5 : Hid (Keeps (fun _ => False) W W5) := hide (HKW4.out.trans (Keeps.of_all B5))
  have HJ5 := hide (HC.out.keep _ _ _ _ HJ0.out (HKW5.out.mono (fun _ _ e => e.elim)))
  have HS5 := hide s5
  have HCE := hide ce
  clear hW5 B5 s5 ce c0 HV4 HD4 HCY4 HCG4 HKW4
  go_wp2_with fail
  refine (wpIn_wide (n := 1)).1 (wp_range_o (gf := 83) (lb := #[.pointer (some ⟨W4.heap.size, 0, none⟩)]) (G := EaG) (xs := bln b.own 64) (R := EaR W4.heap.size b.own) (T := fun k => k = W4.heap.size) (by simp [Act.eval]) (enters_of Tryd.func83 (by kernel_rfl) rfl)
    (each1_o W4.heap.size b.own HO64.out) (fun k hk => by have := HS5.out; omega) (fun A hA => (hA.cell (p := ⟨W4.heap.size, 0, none⟩) (by have := HS5.out; show W4.heap.size < _; omega)).trans HCE.out) (fun x args W' hG => by rw [hG]; rfl)
    (fun O s W' => J O (wyF b s) W' ∧ W'.cell? ⟨W.heap.size, 0, none⟩ = some (.func (.yield l) #[] #[]) ∧ W'.cell? ⟨W1.heap.size, 0, none⟩ = some (.func (.func 61) #[.agg (bdL b).toArray] #[]) ∧ DTab W' ∧ (∀ k, k < W5.heap.size → O k → O0 k)) (fun d O W' => d = .ret ∧ Jx O W' ∧ (∀ k, k < W5.heap.size → O k → O0 k)) O0 ?hC ⟨by rw [HNIL.out]; exact HJ5.out, HCY5.out, HCG5.out, HD5.out, fun _ _ h => h⟩ ?round ?done ?stop)
  case hC =>
    intro d
    refine ⟨?_, ?_, ?_, ?_⟩
    · rintro O s A ⟨h1, h2, h3, h4, h5⟩ k hk
      refine ⟨(HC.out.lt _ _ _ h1 k hk).1, fun e => ?_⟩
      have := (HO0.out k (h5 k (by have := HS5.out; omega) hk)).1
      have := HS4.out; have := HS1.out
      omega
    · rintro O A ⟨_, h1, h5⟩ k hk
      refine ⟨(HC.out.ltx _ _ h1 k hk).1, fun e => ?_⟩
      have := (HO0.out k (h5 k (by have := HS5.out; omega) hk)).1
      have := HS4.out; have := HS1.out
      omega
    · rintro O s A B ⟨h1, h2, h3, h4, h5⟩ hk
      have z1 := HS4.out
      have z2 := HS1.out
      have z3 := HS5.out
      have z4 := HN.out
      have z5 := HBB.out
      exact ⟨HC.out.keep _ _ _ _ h1 (hk.mono (fun k _ e => ⟨by omega, e.2⟩)), hk.cell h2 (fun e => by have := e.1; dsimp only at this; omega), hk.cell h3 (fun e => by have := e.1; dsimp only at this; omega), h4.keeps hk (fun e => by omega), h5⟩
    · rintro O A B ⟨h0, h1, h5⟩ hk
      have z1 := HS4.out
      have z2 := HS1.out
      have z3 := HS5.out
      have z4 := HN.out
      exact ⟨h0, HC.out.keepx _ _ _ h1 (hk.mono (fun k _ e => ⟨by omega, e.2⟩)), h5⟩
  case round =>
    rintro l2 O s x args W6 hl2 ⟨rec, hrec⟩ ⟨hJ6, hy6, hg6, hD6, hO6⟩ hOl _ hOm hpre hG hsz6
    have hx := hpre.subset (show x ∈ s ++ [x] by simp)
    obtain rfl : args = #[.int .u64 (2 ^ x : Nat)] := hG
    have HPX : Hid ((wyF b s ++ way1 b (2 ^ x)) <+: RS) := hide (by rw [← HSN.out, HWF.out]; exact HPF.out _ _ hpre)
    have HGX := hide (HGN.out x hx l J Jx N0 (WaT bb))
    have HSX := hide (HSN.out s x)
    have HBE := hide (fun W' => begun_any (2 ^ x) W')
    obtain ⟨K2, hK2⟩ : ∃ K2, (2 ^ x : Nat) = K2 := ⟨_, rfl⟩
    rw [hK2] at HGX HBE HPX HSX ⊢
    have HJ6 := hide hJ6
    have HY6 := hide hy6
    have HG6 := hide hg6
    have HD6 := hide hD6
    have HO6 := hide hO6
    have HSZ6 := hide hsz6
    have HOL := hide hOl
    have HL2 := hide hl2
    clear hJ6 hy6 hg6 hD6 hO6 hpre hsz6 hrec hK2 hx hOl hOm hl2
    gi_wp2
    refine ⟨Below.refl _ _, ?_⟩
    intro W7 hk7
    have z1 := HS4.out
    have z2 := HS1.out
    have z3 := HS5.out
    have z4 := HN.out
    have z5 := HBB.out
    have z6 := HL2.out
    have z7 := HSZ6.out
    have HJ7 := hide (HC.out.keep _ _ _ _ HJ6.out (hk7.mono (fun k _ e => ⟨by omega, fun h => HOL.out (e ▸ h)⟩)))
    have HY7 : Hid (W7.cell? ⟨W.heap.size, 0, none⟩ = some (.func (.yield l) #[] #[])) := hide (hk7.cell HY6.out (fun e => by dsimp only at e; omega))
    have HG7 : Hid (W7.cell? ⟨W1.heap.size, 0, none⟩ = some (.func (.func 61) #[.agg (bdL b).toArray] #[])) := hide (hk7.cell HG6.out (fun e => by dsimp only at e; omega))
    have HD7 := hide (HD6.out.keeps hk7 (fun e => by omega))
    have HS7 : Hid (W5.heap.size + 2 ≤ W7.heap.size) := hide (Nat.le_trans HSZ6.out hk7.size)
    clear hk7 z1 z2 z3 z4 z5 z6 z7 HJ6 HY6 HG6 HD6
    gi_wp2
    refine wp_region_round (S := fun W8 => W8.cell? ⟨W.heap.size, 0, none⟩ = some (.func (.yield l) #[] #[]) ∧ W8.cell? ⟨W1.heap.size, 0, none⟩ = some (.func (.func 61) #[.agg (bdL b).toArray] #[])) (by kernel_rfl) (by kernel_rfl) (by rintro ⟨_, _, h⟩; exact h) ?_
    have SW : W7.drew.cell? ⟨W.heap.size, 0, none⟩ = some (.func (.yield l) #[] #[]) ∧ W7.drew.cell? ⟨W1.heap.size, 0, none⟩ = some (.func (.func 61) #[.agg (bdL b).toArray] #[]) := ⟨HY7.out, HG7.out⟩
    refine wpAnyH_take (i := 0) (v := .func (.func 61) #[.agg (bdL b).toArray] #[]) rfl (by kernel_rfl) (by kernel_rfl) (by kernel_rfl) (fun _ _ _ h => h) (Or.inl ⟨by rfl, ?_⟩) SW ?_
    · intro W4 hW4
      have x0 := hW4.2
      go_simp <;> first | done | rfl | (rw [IntKind.wrap_i64]; omega) | omega
    go_simp
    refine wpAnyH_take (i := 1) (v := .int .u64 (K2 : Nat)) rfl (by kernel_rfl) (by kernel_rfl) (by kernel_rfl) (fun _ _ _ h => h) (Or.inl ⟨by rfl, ?_⟩) SW ?_
    · intro W4 hW4
      go_simp <;> first | done | rfl | (rw [IntKind.wrap_i64]; omega) | omega
    go_simp
    refine wpAnyH_take (i := 3) (v := .func (.yield l) #[] #[]) rfl (by kernel_rfl) (by kernel_rfl) (by kernel_rfl) (fun _ _ _ h => h) (Or.inl ⟨by rfl, ?_⟩) SW ?_
    · intro W4 hW4
      have x0 := hW4.1
      go_simp <;> first | done | rfl | (rw [IntKind.wrap_i64]; omega) | omega
    go_simp
    refine wpAnyH_ready (rs := [2]) (by kernel_rfl) (by simp) ?_
    refine AllReadyH.cons rfl (fun K1 hK1 => ?_) AllReadyH.nil
    go_simp
    refine (HBE.out _).mono ?_
    rintro r W8 ⟨rfl, hb8⟩
    have B8 : Below W7.heap.size W7 W8 := (Below.refl _ W7).drew.trans hb8
    have S8 : W8.cell? ⟨W.heap.size, 0, none⟩ = some (.func (.yield l) #[] #[]) ∧ W8.cell? ⟨W1.heap.size, 0, none⟩ = some (.func (.func 61) #[.agg (bdL b).toArray] #[]) := ⟨(B8.cell (p := ⟨W.heap.size, 0, none⟩) (World.block_lt_of_cell? W7 _ HY7.out)).trans HY7.out, (B8.cell (p := ⟨W1.heap.size, 0, none⟩) (World.block_lt_of_cell? W7 _ HG7.out)).trans HG7.out⟩
    refine hK1.out _ _ S8 (fun SW => ?_)
    clear hK1 K1 hb8
    go_simp
    refine wpAnyH_ready (rs := [4]) (by kernel_rfl) (by simp) ?_
    refine AllReadyH.cons rfl (fun K1 hK1 => ?_) AllReadyH.nil
    go_simp
    have J8 := HC.out.keep _ _ _ _ HJ7.out (Keeps.of_all B8)
    refine (HGX.out W8 O _ RS (HD7.out.mono B8) (Or.inl rfl) (by have := B8.size; have := HS7.out; have := HS5.out; have := HS4.out; have := HS1.out; have := HN.out; omega) HC.out HY.out HPX.out J8).mono ?_
    rintro r W9 ⟨hk9, O', hO', h9⟩
    have K9 : Keeps O W7 W9 := (Keeps.of_all B8).trans hk9
    have hOW : ∀ k, k < W5.heap.size → O' k → O0 k := fun k hk h => HO6.out k hk (hO' k (by have := B8.size; have := HS7.out; omega) h)
    have hm9 : ∀ k, k < W7.heap.size → O' k → O k := fun k hk h => hO' k (by have := B8.size; omega) h
    have S9 : W9.cell? ⟨W.heap.size, 0, none⟩ = some (.func (.yield l) #[] #[]) ∧ W9.cell? ⟨W1.heap.size, 0, none⟩ = some (.func (.func 61) #[.agg (bdL b).toArray] #[]) := by
      have z1 := HS4.out
      have z2 := HS1.out
      have z3 := HS5.out
      exact ⟨K9.cell HY7.out (fun h => by have := (HO0.out _ (HO6.out _ (by dsimp only; omega) h)).1; dsimp only at this; omega), K9.cell HG7.out (fun h => by have := (HO0.out _ (HO6.out _ (by dsimp only; omega) h)).1; dsimp only at this; omega)⟩
    have HD9 : Hid (DTab W9) := hide (HD7.out.keeps K9 (fun h => (HO0.out _ (HO6.out _ (by have := HBB.out; have := HS5.out; have := HS4.out; have := HS1.out; omega) h)).2.1 rfl))
    have HK9 := hide K9
    have HOW := hide hOW
    have HM9 := hide hm9
    have HS9 := hide S9
    clear J8 B8 hk9 hO' K9 hOW hm9
    rcases h9 with ⟨rfl, h9⟩ | ⟨rfl, h9⟩
    · refine hK1.out _ _ S9 (fun SW => ?_)
      have H9 := hide h9
      clear hK1 K1 h9 S9
      go_simp
      refine wpAnyH_take (i := 5) (v := .bool false) rfl (by kernel_rfl) (by kernel_rfl) (by kernel_rfl) (fun _ _ _ h => h) (Or.inl ⟨by rfl, ?_⟩) SW ?_
      · intro W4 hW4
        go_simp <;> first | done | rfl | (rw [IntKind.wrap_i64]; omega) | omega
      go_simp
      refine wpAnyH_done (by kernel_rfl) ?_ _
      clear SW
      gi_wp2
      exact ⟨HK9.out, O', HM9.out, by rw [HSX.out]; exact H9.out, HS9.out.1, HS9.out.2, HD9.out, HOW.out⟩
    · refine hK1.out _ _ S9 (fun SW => ?_)
      have H9 := hide h9
      clear hK1 K1 h9 S9
      go_simp
      refine wpAnyH_take (i := 5) (v := .bool true) rfl (by kernel_rfl) (by kernel_rfl) (by kernel_rfl) (fun _ _ _ h => h) (Or.inl ⟨by rfl, ?_⟩) SW ?_
      · intro W4 hW4
        go_simp <;> first | done | rfl | (rw [IntKind.wrap_i64]; omega) | omega
      go_simp
      refine wpAnyH_done (by kernel_rfl) ?_ _
      clear SW
      gi_wp2
      exact ⟨HK9.out, O', HM9.out, rfl, H9.out, HOW.out⟩
  case done =>
    rintro D O W6 hD ⟨hJ6, _, _, _, hO6⟩ hk6 hm6 hK
    have z1 := HS4.out
    have z2 := HS1.out
    have z3 := HS5.out
    have z4 := HN.out
    go_wp2
    refine ⟨by simp, .inl ⟨_, _, rfl, run_takeDeferred hK, ?_⟩⟩
    refine ⟨_, results_none rfl _ _ _, ⟨_, rfl⟩, ((HKW5.out.mono (fun _ _ e => e.elim)).chain hk6 (fun _ _ h => h)).thenPut (by omega) _, O, fun k hk h => hO6 k (by omega) h, .inl ?_⟩
    rw [HWF.out]
    refine HC.out.keep _ _ _ _ hJ6 (Keeps.put (Keeps.refl _ W6) ⟨by omega, fun h => ?_⟩ _)
    have := (HO0.out _ (hm6 _ (by omega) h)).1
    omega
  case stop =>
    rintro d D O W6 hD ⟨rfl, hJ6, hO6⟩ hk6 hm6 hK
    have z1 := HS4.out
    have z2 := HS1.out
    have z3 := HS5.out
    have z4 := HN.out
    refine wpIn_wide.2 ?_
    go_wp2
    refine ⟨by simp, .inl ⟨_, _, rfl, run_takeDeferred hK, ?_⟩⟩
    refine ⟨_, results_none rfl _ _ _, ⟨_, rfl⟩, ((HKW5.out.mono (fun _ _ e => e.elim)).chain hk6 (fun _ _ h => h)).thenPut (by omega) _, O, fun k hk h => hO6 k (by omega) h, .inr ?_⟩
    refine HC.out.keepx _ _ _ hJ6 (Keeps.put (Keeps.refl _ W6) ⟨by omega, fun h => ?_⟩ _)
    have := (HO0.out _ (hm6 _ (by omega) h)).1
    omega

theorem ways1_o (b : Bm) (hb : BOk b) (bb : Nat) : SeqO Tryd.prog 60 #[.pointer (some ⟨bb, 0, none⟩)] WyG (ways b) (WaR bb b) (WaT bb) := by
  cases h : b.jms with
  | true => exact ways1_jump b hb bb h
  | false => exact ways1_step b hb bb h

end Go.Proofs.YtnbaangnpoblfaaDoor
