/-
  How many rows of so many drops there are: the closure of four.Count that calls itself. No conditions beyond those that each theorem bears.
-/
import Derived.Test.YtaglhmkjdajgpaaDoorDr
namespace Go.Proofs.YtaglhmkjdajgpaaDoor
open Go.RowKit Go.Shelf

/-- Rows of so many drops from a board on, the mover's first. -/
def cdp (W H k : Nat) : Nat → List Int → Nat → Nat
  | 0, _, _ => 1
  | l + 1, Z, m => ((drK W H Z W).map fun x => if l = 0 ∨ inR W H (Z.set x.2 (m : Int)) x.2 k = false then cdp W H k l (Z.set x.2 (m : Int)) (3 - m) else 0).sum

/-- What a first drop brings. -/
def tmC (W H k l : Nat) (Z : List Int) (m : Nat) (x : Nat × Nat) : Nat := if l = 0 ∨ inR W H (Z.set x.2 (m : Int)) x.2 k = false then cdp W H k l (Z.set x.2 (m : Int)) (3 - m) else 0

theorem cdp_zero (W H k : Nat) (Z : List Int) (m : Nat) : cdp W H k 0 Z m = 1 := by unfold cdp; rfl
theorem cdp_succ (W H k l : Nat) (Z : List Int) (m : Nat) : cdp W H k (l + 1) Z m = ((drK W H Z W).map (tmC W H k l Z m)).sum := by
  conv => lhs; unfold cdp
  rfl

theorem drK_len (W H : Nat) (Z : List Int) : ∀ j, (drK W H Z j).length ≤ j
  | 0 => by rw [drK_zero]; simp
  | j + 1 => by
    have := drK_len W H Z j
    cases hf : fallN W Z j H with
    | none => rw [drK_none hf]; omega
    | some p => rw [drK_some hf]; simp; omega

theorem sum_bd {α : Type} (f : α → Nat) (B : Nat) (h : ∀ x, f x ≤ B) : ∀ xs : List α, (xs.map f).sum ≤ xs.length * B
  | [] => by simp
  | x :: xs => by
    have := sum_bd f B h xs
    have := h x
    simp only [List.map_cons, List.sum_cons, List.length_cons, Nat.succ_mul]
    omega

theorem cdp_bd (W H k : Nat) (hW : W ≤ 10) : ∀ (l : Nat) (Z : List Int) (m : Nat), cdp W H k l Z m ≤ 10 ^ l
  | 0, _, _ => by rw [cdp_zero]; simp
  | l + 1, Z, m => by
    rw [cdp_succ]
    have hb : ∀ x, tmC W H k l Z m x ≤ 10 ^ l := by
      intro x
      unfold tmC
      split
      · exact cdp_bd W H k hW l _ _
      · exact Nat.zero_le _
    refine Nat.le_trans (sum_bd _ _ hb _) ?_
    rw [Nat.pow_succ, Nat.mul_comm (10 ^ l) 10]
    exact Nat.mul_le_mul_right _ (Nat.le_trans (drK_len W H Z W) hW)

theorem tmC_bd (W H k l : Nat) (hW : W ≤ 10) (hl : l ≤ 5) (Z : List Int) (m : Nat) (x : Nat × Nat) : tmC W H k l Z m x ≤ 100000 := by
  unfold tmC
  split
  · exact Nat.le_trans (cdp_bd W H k hW l _ _) (Nat.pow_le_pow_right (by omega) hl)
  · exact Nat.zero_le _

theorem drops_any (a : Value) (ha : a.oneCell' = true) (m : Nat) (w : World) (hp : ∃ b, a = .pointer (some ⟨b, 0, none⟩)) :
    Calls Tryd.prog 41 #[a, .int .i64 m] w fun e w' => e = .returned (.func (.func 49) #[] #[.pointer (some ⟨w.heap.size, 0, none⟩), .pointer (some ⟨w.heap.size + 1, 0, none⟩)]) ∧ w'.cell? ⟨w.heap.size, 0, none⟩ = some a ∧ w'.cell? ⟨w.heap.size + 1, 0, none⟩ = some (.int .i64 m) ∧ Below w.heap.size w w' ∧ w'.heap.size = w.heap.size + 2 := by
  obtain ⟨b, rfl⟩ := hp
  go_enter Tryd.func41, Tryd.ntmps41
  go_wp2
  go_ret
  refine ⟨rfl, ?_, ?_, ?_, ?_⟩
  · have h1 := heap_alloc_new w (.cells #[.pointer (some ⟨b, 0, none⟩)] 50)
    have h2 := (Below.heap_alloc (w.alloc (.cells #[.pointer (some ⟨b, 0, none⟩)] 50)) (.cells #[.int .i64 (m : Int)] 3) w.heap.size (by simp)).trans h1
    unfold World.cell?
    simp only [h2]
    rfl
  · have h1 := heap_alloc_new (w.alloc (.cells #[.pointer (some ⟨b, 0, none⟩)] 50)) (.cells #[.int .i64 (m : Int)] 3)
    rw [World.size_alloc] at h1
    unfold World.cell?
    simp only [h1]
    rfl
  · exact ((Below.refl _ w).alloc (Nat.le_refl _) _).alloc (by simp) _
  · simp

/-- The closure, at so many plies. -/
def CntOk (g : Wp) (fb l : Nat) : Prop := ∀ (Z : List Int) (m : Nat) (w : World), (m = 1 ∨ m = 2) → WS g w Z → w.cell? ⟨fb, 0, none⟩ = some (.func (.func 40) #[] #[.pointer (some ⟨g.wb, 0, none⟩), .pointer (some ⟨fb, 0, none⟩)]) →
  Calls Tryd.prog 40 #[.int .i64 (m : Nat), .int .i64 (l : Nat), .pointer (some ⟨g.wb, 0, none⟩), .pointer (some ⟨fb, 0, none⟩)] w fun e w' => e = .returned (.int .i64 (cdp g.W g.H g.k l Z m : Nat)) ∧ Below w.heap.size w w'

set_option maxHeartbeats 1000000 in
theorem cnS_zero (g : Wp) (fb : Nat) : CntOk g fb 0 := by
  intro Z m w hm h hf
  rw [cdp_zero]
  clear h hf
  go_enter Tryd.func40, Tryd.ntmps40
  go_wp2_with fail
  go_ret
  exact ⟨rfl, ((Below.refl _ w).alloc (Nat.le_refl _) _).alloc (by simp) _⟩

attribute [local irreducible] drK inR fallN cdp tmC
attribute [local go_sem] Oper.semAt_some wide_fn wide_fn0 wide_depth

set_option maxRecDepth 100000 in
set_option maxHeartbeats 4000000 in
theorem cnS_succ (g : Wp) (hg : g.Ok) (fb l : Nat) (hfb : fb ≠ g.cb) (hl : l ≤ 5) (ih : CntOk g fb l) : CntOk g fb (l + 1) := by
  intro Z m w hm h hf
  obtain ⟨hwb, hcb⟩ := h.lt
  have hfl := World.block_lt_of_cell? w _ hf
  have hfl' : fb < w.heap.size := hfl
  have HS := hide (cdp_succ g.W g.H g.k l Z m)
  have HSEQ := hide (fun bw bm h1 h2 ob => drops1_seq g hg bw bm m h1 h2 Z ob)
  have HTB := hide (tmC_bd g.W g.H g.k l hg.w.2 hl Z m)
  have HTU : Hid (∀ x : Nat × Nat, tmC g.W g.H g.k l Z m x = if l = 0 ∨ inR g.W g.H (Z.set x.2 (m : Int)) x.2 g.k = false then cdp g.W g.H g.k l (Z.set x.2 (m : Int)) (3 - m) else 0) := hide (fun x => by rw [tmC])
  have HDL := hide (drK_len g.W g.H Z g.W)
  have hW10 := hg.w.2
  obtain ⟨R, hR⟩ : ∃ R, cdp g.W g.H g.k (l + 1) Z m = R := ⟨_, rfl⟩
  rw [hR] at HS ⊢
  obtain ⟨D, hD⟩ : ∃ D, drK g.W g.H Z g.W = D := ⟨_, rfl⟩
  rw [hD] at HS HSEQ HDL
  obtain ⟨T, hT⟩ : ∃ T, tmC g.W g.H g.k l Z m = T := ⟨_, rfl⟩
  rw [hT] at HS HTB HTU
  have HIH := hide ih
  have HG := hide hg
  have HW0 := hide h
  have HF0 := hide hf
  have c0 := hg.c0
  have hl6 : ((l + 1 : Nat) : Int) ≤ 6 := by omega
  have hl0 : (((l + 1 : Nat) : Int) == 0) = false := by simp; omega
  clear hR hD hT ih h hg hf hfl
  refine (callsIn_wide (n := 3)).1 ?_
  refine callsIn_of_wp_marks Tryd.func40 rfl trivial ?_ rfl
  simp only [Tryd.ntmps40, List.size_toArray, List.length_cons, List.length_nil, Nat.reduceAdd, Nat.reduceSub, Array.replicate_succ, Array.replicate_zero, List.push_toArray, List.append_toArray, List.nil_append, List.cons_append]
  refine wpIn_wide.2 ?_
  obtain ⟨L1, hL1⟩ : ∃ L1 : Nat, l + 1 = L1 := ⟨_, rfl⟩
  have HL1 := hide hL1
  rw [hL1] at hl6 hl0 ⊢
  clear hL1
  go_upto_region 4 with fail
  obtain ⟨w1, hw1⟩ : ∃ w1, ((w.alloc (Obj.cells #[.int .i64 (m : Int)] 3)).alloc (Obj.cells #[.int .i64 (L1 : Int)] 3)).alloc (Obj.cells #[.int .i64 0] 3) = w1 := ⟨_, rfl⟩
  have M1 : w1.cell? ⟨w.heap.size, 0, none⟩ = some (.int .i64 (m : Int)) := by
    rw [← hw1]
    exact (((Blk.new w 3 [(m : Int)] _ rfl).old _).old _).cell (i := 0) (by simp)
  have L1c : w1.cell? ⟨w.heap.size + 1, 0, none⟩ = some (.int .i64 (L1 : Int)) := by
    rw [← hw1]
    have := ((Blk.new (w.alloc (Obj.cells #[.int .i64 (m : Int)] 3)) 3 [(L1 : Int)] _ rfl).old (Obj.cells #[.int .i64 0] 3)).cell (i := 0) (by simp)
    rw [World.size_alloc] at this
    exact this
  have N1 : Blk w1 (w.heap.size + 2) 3 [0] := by
    rw [← hw1]
    have := Blk.new ((w.alloc (Obj.cells #[.int .i64 (m : Int)] 3)).alloc (Obj.cells #[.int .i64 (L1 : Int)] 3)) 3 [0] _ rfl
    rw [World.size_alloc, World.size_alloc] at this
    exact this
  have B1 : Below w.heap.size w w1 := by rw [← hw1]; exact (((Below.refl _ _).alloc (Nat.le_refl _) _).alloc (by simp) _).alloc (by simp; omega) _
  have S1 : w1.heap.size = w.heap.size + 3 := by rw [← hw1]; simp
  rw [hw1]
  clear hw1
  go_wp2_with fail
  refine (drops_any (.pointer (some ⟨g.wb, 0, none⟩)) rfl m w1 ⟨_, rfl⟩).mono ?_
  rintro e w2 ⟨rfl, cw2, cm2, hB2, hS2⟩
  rw [S1] at cw2 cm2 hB2 hS2
  have M2 := (hB2.cell (p := ⟨w.heap.size, 0, none⟩) (by show w.heap.size < _; omega)).trans M1
  have L2 := (hB2.cell (p := ⟨w.heap.size + 1, 0, none⟩) (by show w.heap.size + 1 < _; omega)).trans L1c
  have N2 := N1.below hB2 (by omega)
  have B2 := B1.trans (hB2.mono (by omega))
  have W2 : WS g w2 Z := HW0.out.grow B2
  have F2 := (B2.cell (p := ⟨fb, 0, none⟩) hfl').trans HF0.out
  clear M1 L1c N1 B1 hB2
  rw [S1]
  clear S1
  go_wp2_with fail
  refine (wpIn_wide (n := 1)).1 (wp_range_st (gf := 49) (lb := #[.pointer (some ⟨w.heap.size + 3, 0, none⟩), .pointer (some ⟨w.heap.size + 3 + 1, 0, none⟩)]) (by simp [Act.eval]) (enters_of Tryd.func49 (by kernel_rfl) rfl)
    (HSEQ.out (w.heap.size + 3) (w.heap.size + 3 + 1) (by omega) (by omega) (w2.heap[g.cb]?)) ?hT ?hY ?hRk ⟨⟨W2, cw2, cm2⟩, rfl⟩ (fun k => k = w.heap.size + 2) ?hX ?hps
    (fun pre W => W.cell? ⟨w.heap.size + 2, 0, none⟩ = some (.int .i64 (((pre.map T).sum : Nat) : Int)) ∧ W.frozen? ⟨w.heap.size + 2, 0, none⟩ = false ∧ Keeps (fun k => k = g.cb ∨ k = w.heap.size + 2) w2 W) (fun _ => False) ?hI (fun _ _ h _ => h) ?h0 ?round ?done (fun _ _ _ h => h.elim))
  case hT =>
    rintro k (rfl | rfl | rfl | rfl | rfl) <;> omega
  case hY =>
    rintro k rfl
    omega
  case hRk =>
    rintro A B ⟨hA, hA2⟩ hk
    exact ⟨hA.keeps hk (fun _ h => h), (hk.block _ hA.s.lt.2 (fun e => e (Or.inr (Or.inl rfl)))).trans hA2⟩
  case hX =>
    rintro k rfl
    refine ⟨by omega, ?_⟩
    rintro (e | e | e | e | e) <;> omega
  case hps =>
    rintro x args W ⟨rfl, _⟩
    rfl
  case hI =>
    rintro s A B ⟨k1, k2, k3⟩ hk
    have hlt : w.heap.size + 2 < A.heap.size := by have := World.block_lt_of_cell? A _ k1; exact this
    have hne : ¬ (w.heap.size + 2 = g.cb ∨ w2.heap.size ≤ w.heap.size + 2) := by omega
    refine ⟨hk.cell k1 hne, (hk.frozen (p := ⟨w.heap.size + 2, 0, none⟩) hlt hne).trans k2, ?_⟩
    exact ⟨hk.os.trans k3.os, hk.tape.trans k3.tape, hk.output.trans k3.output, Nat.le_trans k3.size hk.size, fun i hi hx => (hk.block i (Nat.lt_of_lt_of_le hi k3.size) (fun e => Or.elim e (fun e => hx (Or.inl e)) (fun e => by omega))).trans (k3.block i hi hx)⟩
  case h0 => exact ⟨N2.cell (i := 0) (by simp), N2.frozen 0, Keeps.refl _ _⟩
  case round =>
    rintro l2 pre x args W hl2 ⟨rec, hrec⟩ ⟨k1, k2, k3⟩ hpre ⟨rfl, hWx⟩
    have hlt2 : l2 < W.heap.size := (Array.getElem?_eq_some_iff.1 hrec).1
    have hpl : pre.length + 1 ≤ 10 := by
      have := hpre.length_le
      rw [List.length_append, List.length_singleton] at this
      have := HDL.out
      omega
    have hNV := sum_bd T 100000 HTB.out pre
    have hV := HTB.out x
    have HV := hide (HTU.out x)
    have HSM : Hid (((pre ++ [x]).map T).sum = (pre.map T).sum + T x) := hide (by simp)
    obtain ⟨NV, hNVe⟩ : ∃ NV, (pre.map T).sum = NV := ⟨_, rfl⟩
    rw [hNVe] at k1 hNV HSM
    obtain ⟨V, hVe⟩ : ∃ V, T x = V := ⟨_, rfl⟩
    rw [hVe] at hV HV HSM
    have hNV2 : NV ≤ 1000000 := by
      have : pre.length * 100000 ≤ 10 * 100000 := Nat.mul_le_mul_right _ (by omega)
      omega
    clear hNVe hVe hNV hpl hpre
    obtain ⟨cx, px⟩ := x
    dsimp only at hWx HV ⊢
    have HK1 := hide k1
    have HK2 := hide k2
    have HK3 := hide k3
    have HWX := hide hWx
    clear k1 k2 k3 hWx hrec
    gi_wp2
    refine ⟨Keeps.refl _ _, ?_⟩
    intro W3 hk3
    have cn := hk3.cell HK1.out (by show ¬ w.heap.size + 2 = l2; omega)
    have fn := (hk3.frozen (p := ⟨w.heap.size + 2, 0, none⟩) (World.block_lt_of_cell? W _ HK1.out) (by show ¬ w.heap.size + 2 = l2; omega)).trans HK2.out
    have k0 : ∀ b, b < w.heap.size + 2 → b ≠ g.cb → W3.heap[b]? = w2.heap[b]? := fun b hb hne => (hk3.block b (by have := HK3.out.size; omega) (by omega)).trans (HK3.out.block b (by omega) (by omega))
    have cm3 : W3.cell? ⟨w.heap.size, 0, none⟩ = some (.int .i64 (m : Int)) := (World.cell?_of_block (w := w2) (k0 w.heap.size (by omega) (by omega))).trans M2
    have cl3 : W3.cell? ⟨w.heap.size + 1, 0, none⟩ = some (.int .i64 (L1 : Int)) := (World.cell?_of_block (w := w2) (k0 (w.heap.size + 1) (by omega) (by omega))).trans L2
    have cf3 : W3.cell? ⟨fb, 0, none⟩ = some (.func (.func 40) #[] #[.pointer (some ⟨g.wb, 0, none⟩), .pointer (some ⟨fb, 0, none⟩)]) := (World.cell?_of_block (w := w2) (k0 fb (by omega) hfb)).trans F2
    have HW3 : Hid (WS g W3 (Z.set px (m : Int))) := hide (HWX.out.keeps hk3 (by omega) (by omega) (by omega))
    have HKK : Hid (Keeps (fun k => k = g.cb ∨ k = w.heap.size + 2) w2 W3) := hide ⟨hk3.os.trans HK3.out.os, hk3.tape.trans HK3.out.tape, hk3.output.trans HK3.out.output, Nat.le_trans HK3.out.size hk3.size, fun i hi hx => (hk3.block i (Nat.lt_of_lt_of_le hi HK3.out.size) (by omega)).trans (HK3.out.block i hi hx)⟩
    clear k0 hk3 HK1 HK2 HK3 HWX M2 L2 N2 F2 cw2 cm2 W2 B2
    by_cases hcase : l = 0 ∨ inR g.W g.H (Z.set px (m : Int)) px g.k = false
    · rw [if_pos hcase] at HV
      have HCALL := hide (fun W4 (hb : WS g W4 (Z.set px (m : Int))) hc => HIH.out (Z.set px (m : Int)) (3 - m) W4 (by omega) hb hc)
      rw [← HV.out] at HCALL
      have SF : Hid (∀ W4, Below W3.heap.size W3 W4 → W4.cell? ⟨fb, 0, none⟩ = some (.func (.func 40) #[] #[.pointer (some ⟨g.wb, 0, none⟩), .pointer (some ⟨fb, 0, none⟩)]) ∧ W4.cell? ⟨w.heap.size, 0, none⟩ = some (.int .i64 (m : Int)) ∧ W4.cell? ⟨w.heap.size + 1, 0, none⟩ = some (.int .i64 (L1 : Int))) := hide (fun W4 hb => ⟨(hb.cell (p := ⟨fb, 0, none⟩) (World.block_lt_of_cell? W3 _ cf3)).trans cf3, (hb.cell (p := ⟨w.heap.size, 0, none⟩) (World.block_lt_of_cell? W3 _ cm3)).trans cm3, (hb.cell (p := ⟨w.heap.size + 1, 0, none⟩) (World.block_lt_of_cell? W3 _ cl3)).trans cl3⟩)
      have hfb2 : fb ≠ w.heap.size + 2 := by omega
      have SS : Hid (∀ W4 : World, (W4.cell? ⟨fb, 0, none⟩ = some (.func (.func 40) #[] #[.pointer (some ⟨g.wb, 0, none⟩), .pointer (some ⟨fb, 0, none⟩)]) ∧ W4.cell? ⟨w.heap.size, 0, none⟩ = some (.int .i64 (m : Int)) ∧ W4.cell? ⟨w.heap.size + 1, 0, none⟩ = some (.int .i64 (L1 : Int))) → ∀ v, (W4.setCell ⟨w.heap.size + 2, 0, none⟩ v).cell? ⟨fb, 0, none⟩ = some (.func (.func 40) #[] #[.pointer (some ⟨g.wb, 0, none⟩), .pointer (some ⟨fb, 0, none⟩)]) ∧ (W4.setCell ⟨w.heap.size + 2, 0, none⟩ v).cell? ⟨w.heap.size, 0, none⟩ = some (.int .i64 (m : Int)) ∧ (W4.setCell ⟨w.heap.size + 2, 0, none⟩ v).cell? ⟨w.heap.size + 1, 0, none⟩ = some (.int .i64 (L1 : Int))) := hide (fun W4 ⟨a1, a2, a3⟩ v =>
        ⟨(Keeps.set1 W4 (w.heap.size + 2) 0 v).cell a1 hfb2, (Keeps.set1 W4 (w.heap.size + 2) 0 v).cell a2 (by show ¬ w.heap.size = w.heap.size + 2; omega), (Keeps.set1 W4 (w.heap.size + 2) 0 v).cell a3 (by show ¬ w.heap.size + 1 = w.heap.size + 2; omega)⟩)
      have hfin : NV + V ≤ 2000000 := by omega
      have FIN : Hid (∀ W6, Below W3.heap.size W3 W6 → W6.cell? ⟨w.heap.size + 2, 0, none⟩ = some (.int .i64 (NV : Nat)) → W6.frozen? ⟨w.heap.size + 2, 0, none⟩ = false → Keeps (fun k => k = w.heap.size + 2) W3 (W6.setCell ⟨w.heap.size + 2, 0, none⟩ (.int .i64 ((NV + V : Nat) : Int))) ∧ (W6.setCell ⟨w.heap.size + 2, 0, none⟩ (.int .i64 ((NV + V : Nat) : Int))).cell? ⟨w.heap.size + 2, 0, none⟩ = some (.int .i64 (((((pre ++ [(cx, px)]).map T).sum : Nat) : Int))) ∧ (W6.setCell ⟨w.heap.size + 2, 0, none⟩ (.int .i64 ((NV + V : Nat) : Int))).frozen? ⟨w.heap.size + 2, 0, none⟩ = false ∧ Keeps (fun k => k = g.cb ∨ k = w.heap.size + 2) w2 (W6.setCell ⟨w.heap.size + 2, 0, none⟩ (.int .i64 ((NV + V : Nat) : Int)))) := hide (fun W6 hb h1 h2 => by
        have kk : Keeps (fun k => k = w.heap.size + 2) W3 (W6.setCell ⟨w.heap.size + 2, 0, none⟩ (.int .i64 ((NV + V : Nat) : Int))) := (Keeps.of_all hb).setCell (X := fun k => k = w.heap.size + 2) rfl _
        refine ⟨kk, ?_, ?_, HKK.out.trans (kk.mono (fun _ _ e => Or.inr e))⟩
        · rw [HSM.out]; exact World.cell?_setCell_same W6 _ _ (by rw [h1])
        · rw [World.frozen?_setCell]; exact h2)
      have hm3 : m ≤ 3 := by omega
      have hlt6 : L1 = l + 1 := HL1.out.symm
      have HCL : Hid (((L1 : Nat) : Int) - 1 = (l : Nat)) := hide (by omega)
      have hgo : (((L1 : Int) == 1) = true ∨ (((L1 : Int) == 1) = false ∧ inR g.W g.H (Z.set px (m : Int)) px g.k = false)) := by
        by_cases e : l = 0
        · exact Or.inl (by simp; omega)
        · exact Or.inr ⟨by simp; omega, by rcases hcase with h | h; · exact absurd h e
                                           · exact h⟩
      obtain ⟨inB, hinB⟩ : ∃ b, inR g.W g.H (Z.set px (m : Int)) px g.k = b := ⟨_, rfl⟩
      rw [hinB] at hgo ⊢
      clear hinB hcase HV hlt6 HIH HKK
      have REG : Hid (∀ a : Act, True) := hide (fun _ => trivial)
      rcases hgo with h1 | ⟨h1, h2⟩
      · gi_wp2_with fail
        clear h1
        refine wp_region_round (S := fun W4 => W4.cell? ⟨fb, 0, none⟩ = some (.func (.func 40) #[] #[.pointer (some ⟨g.wb, 0, none⟩), .pointer (some ⟨fb, 0, none⟩)]) ∧ W4.cell? ⟨w.heap.size, 0, none⟩ = some (.int .i64 (m : Int)) ∧ W4.cell? ⟨w.heap.size + 1, 0, none⟩ = some (.int .i64 (L1 : Int))) (by kernel_rfl) (by kernel_rfl) (by rintro ⟨_, _, h⟩; exact h) ?_
        have SW := SF.out W3.drew (Below.refl _ W3).drew
        have cn0 := ((Below.refl W3.heap.size W3).drew.cell (p := ⟨w.heap.size + 2, 0, none⟩) (World.block_lt_of_cell? W3 _ cn)).trans cn
        have cc := SW
        refine wpAnyH_take (i := 1) (v := .func (.func 40) #[] #[.pointer (some ⟨g.wb, 0, none⟩), .pointer (some ⟨fb, 0, none⟩)]) rfl (by kernel_rfl) (by kernel_rfl) (by kernel_rfl) (fun _ _ _ h => h) (Or.inl ⟨by rfl, ?_⟩) SW ?_
        · intro W4 hW4
          obtain ⟨x0, x1, x2⟩ := hW4
          go_simp <;> first | done | rfl | (rw [IntKind.wrap_i64]; omega) | omega
        go_simp
        refine wpAnyH_take (i := 2) (v := .int .i64 (m : Nat)) rfl (by kernel_rfl) (by kernel_rfl) (by kernel_rfl) (fun _ _ _ h => h) (Or.inl ⟨by rfl, ?_⟩) SW ?_
        · intro W4 hW4
          obtain ⟨x0, x1, x2⟩ := hW4
          go_simp <;> first | done | rfl | (rw [IntKind.wrap_i64]; omega) | omega
        go_simp
        refine wpAnyH_take (i := 4) (v := .int .i64 (L1 : Nat)) rfl (by kernel_rfl) (by kernel_rfl) (by kernel_rfl) (fun _ _ _ h => h) (Or.inl ⟨by rfl, ?_⟩) SW ?_
        · intro W4 hW4
          obtain ⟨x0, x1, x2⟩ := hW4
          go_simp <;> first | done | rfl | (rw [IntKind.wrap_i64]; omega) | omega
        go_simp
        refine wpAnyH_take (i := 5) (v := .int .i64 (l : Nat)) rfl (by kernel_rfl) (by kernel_rfl) (by kernel_rfl) (fun _ _ _ h => h) (Or.inl ⟨by rfl, ?_⟩) SW ?_
        · intro W4 hW4
          have hcl := HCL.out
          go_simp <;> first | done | rfl | (rw [IntKind.wrap_i64]; omega) | omega
        go_simp
        refine wpAnyH_ready (rs := [0, 3]) (by kernel_rfl) (by simp) ?_
        refine AllReadyH.cons rfl (fun K1 hK1 => ?_) (AllReadyH.cons rfl (fun K1 hK1 => ?_) AllReadyH.nil)
        · go_simp
          refine hK1.out _ _ SW (fun SW => ?_)
          clear hK1 K1
          go_simp
          refine wpAnyH_ready (rs := [3]) (by kernel_rfl) (by simp) ?_
          refine AllReadyH.cons rfl (fun K1 hK1 => ?_) AllReadyH.nil
          go_simp
          refine (theOther_any m hm3 _).mono ?_
          rintro e w5 ⟨rfl, hw5⟩
          subst w5
          refine hK1.out _ _ SW (fun SW => ?_)
          clear hK1 K1
          go_simp
          refine wpAnyH_ready (rs := [6]) (by kernel_rfl) (by simp) ?_
          refine AllReadyH.cons rfl (fun K1 hK1 => ?_) AllReadyH.nil
          go_simp
          refine (HCALL.out _ (HW3.out.grow (Below.refl _ _).drew) cc.1).mono ?_
          rintro e w6 ⟨rfl, hb6⟩
          have B6 : Below W3.heap.size W3 w6 := (Below.refl _ _).drew.trans hb6
          have cn6 := (B6.cell (p := ⟨w.heap.size + 2, 0, none⟩) (World.block_lt_of_cell? W3 _ cn)).trans cn
          have fn6 := (World.frozen?_of_block (w := W3) (B6.block (w.heap.size + 2) (World.block_lt_of_cell? W3 _ cn))).trans fn
          refine hK1.out _ _ (SF.out w6 B6) (fun SW => ?_)
          clear hK1 K1 hb6
          go_simp
          refine wpAnyH_take (i := 7) (v := .int .i64 ((NV + V : Nat) : Int)) rfl (by kernel_rfl) (by kernel_rfl) (by kernel_rfl) (fun _ _ _ h => h) (Or.inl ⟨by rfl, ?_⟩) SW ?_
          · intro W4 hW4
            go_simp <;> first | done | rfl | (rw [IntKind.wrap_i64]; omega) | omega
          go_simp
          refine wpAnyH_ready (rs := [8]) (by kernel_rfl) (by simp) ?_
          refine AllReadyH.cons rfl (fun K1 hK1 => ?_) AllReadyH.nil
          go_simp
          refine hK1.out _ _ (SS.out w6 (SF.out w6 B6) _) (fun SW => ?_)
          clear hK1 K1
          go_simp
          refine wpAnyH_done (by kernel_rfl) ?_ _
          have FF := FIN.out w6 B6 cn6 fn6
          exact FF
        · go_simp
          refine (theOther_any m hm3 _).mono ?_
          rintro e w5 ⟨rfl, hw5⟩
          subst w5
          refine hK1.out _ _ SW (fun SW => ?_)
          clear hK1 K1
          go_simp
          refine wpAnyH_ready (rs := [0, 6]) (by kernel_rfl) (by simp) ?_
          refine AllReadyH.cons rfl (fun K1 hK1 => ?_) (AllReadyH.cons rfl (fun K1 hK1 => ?_) AllReadyH.nil)
          · go_simp
            refine hK1.out _ _ SW (fun SW => ?_)
            clear hK1 K1
            go_simp
            refine wpAnyH_ready (rs := [6]) (by kernel_rfl) (by simp) ?_
            refine AllReadyH.cons rfl (fun K1 hK1 => ?_) AllReadyH.nil
            go_simp
            refine (HCALL.out _ (HW3.out.grow (Below.refl _ _).drew) cc.1).mono ?_
            rintro e w6 ⟨rfl, hb6⟩
            have B6 : Below W3.heap.size W3 w6 := (Below.refl _ _).drew.trans hb6
            have cn6 := (B6.cell (p := ⟨w.heap.size + 2, 0, none⟩) (World.block_lt_of_cell? W3 _ cn)).trans cn
            have fn6 := (World.frozen?_of_block (w := W3) (B6.block (w.heap.size + 2) (World.block_lt_of_cell? W3 _ cn))).trans fn
            refine hK1.out _ _ (SF.out w6 B6) (fun SW => ?_)
            clear hK1 K1 hb6
            go_simp
            refine wpAnyH_take (i := 7) (v := .int .i64 ((NV + V : Nat) : Int)) rfl (by kernel_rfl) (by kernel_rfl) (by kernel_rfl) (fun _ _ _ h => h) (Or.inl ⟨by rfl, ?_⟩) SW ?_
            · intro W4 hW4
              go_simp <;> first | done | rfl | (rw [IntKind.wrap_i64]; omega) | omega
            go_simp
            refine wpAnyH_ready (rs := [8]) (by kernel_rfl) (by simp) ?_
            refine AllReadyH.cons rfl (fun K1 hK1 => ?_) AllReadyH.nil
            go_simp
            refine hK1.out _ _ (SS.out w6 (SF.out w6 B6) _) (fun SW => ?_)
            clear hK1 K1
            go_simp
            refine wpAnyH_done (by kernel_rfl) ?_ _
            have FF := FIN.out w6 B6 cn6 fn6
            exact FF
          · go_simp
            refine (HCALL.out _ (HW3.out.grow (Below.refl _ _).drew) cc.1).mono ?_
            rintro e w6 ⟨rfl, hb6⟩
            have B6 : Below W3.heap.size W3 w6 := (Below.refl _ _).drew.trans hb6
            have cn6 := (B6.cell (p := ⟨w.heap.size + 2, 0, none⟩) (World.block_lt_of_cell? W3 _ cn)).trans cn
            have fn6 := (World.frozen?_of_block (w := W3) (B6.block (w.heap.size + 2) (World.block_lt_of_cell? W3 _ cn))).trans fn
            refine hK1.out _ _ (SF.out w6 B6) (fun SW => ?_)
            clear hK1 K1 hb6
            go_simp
            refine wpAnyH_ready (rs := [0]) (by kernel_rfl) (by simp) ?_
            refine AllReadyH.cons rfl (fun K1 hK1 => ?_) AllReadyH.nil
            go_simp
            refine hK1.out _ _ SW (fun SW => ?_)
            clear hK1 K1
            go_simp
            refine wpAnyH_take (i := 7) (v := .int .i64 ((NV + V : Nat) : Int)) rfl (by kernel_rfl) (by kernel_rfl) (by kernel_rfl) (fun _ _ _ h => h) (Or.inl ⟨by rfl, ?_⟩) SW ?_
            · intro W4 hW4
              go_simp <;> first | done | rfl | (rw [IntKind.wrap_i64]; omega) | omega
            go_simp
            refine wpAnyH_ready (rs := [8]) (by kernel_rfl) (by simp) ?_
            refine AllReadyH.cons rfl (fun K1 hK1 => ?_) AllReadyH.nil
            go_simp
            refine hK1.out _ _ (SS.out w6 (SF.out w6 B6) _) (fun SW => ?_)
            clear hK1 K1
            go_simp
            refine wpAnyH_done (by kernel_rfl) ?_ _
            have FF := FIN.out w6 B6 cn6 fn6
            exact FF
      · subst h2
        gi_wp2_with fail
        clear h1
        refine wp_region_round (S := fun W4 => W4.cell? ⟨fb, 0, none⟩ = some (.func (.func 40) #[] #[.pointer (some ⟨g.wb, 0, none⟩), .pointer (some ⟨fb, 0, none⟩)]) ∧ W4.cell? ⟨w.heap.size, 0, none⟩ = some (.int .i64 (m : Int)) ∧ W4.cell? ⟨w.heap.size + 1, 0, none⟩ = some (.int .i64 (L1 : Int))) (by kernel_rfl) (by kernel_rfl) (by rintro ⟨_, _, h⟩; exact h) ?_
        have SW := SF.out W3.drew (Below.refl _ W3).drew
        have cn0 := ((Below.refl W3.heap.size W3).drew.cell (p := ⟨w.heap.size + 2, 0, none⟩) (World.block_lt_of_cell? W3 _ cn)).trans cn
        have cc := SW
        refine wpAnyH_take (i := 1) (v := .func (.func 40) #[] #[.pointer (some ⟨g.wb, 0, none⟩), .pointer (some ⟨fb, 0, none⟩)]) rfl (by kernel_rfl) (by kernel_rfl) (by kernel_rfl) (fun _ _ _ h => h) (Or.inl ⟨by rfl, ?_⟩) SW ?_
        · intro W4 hW4
          obtain ⟨x0, x1, x2⟩ := hW4
          go_simp <;> first | done | rfl | (rw [IntKind.wrap_i64]; omega) | omega
        go_simp
        refine wpAnyH_take (i := 2) (v := .int .i64 (m : Nat)) rfl (by kernel_rfl) (by kernel_rfl) (by kernel_rfl) (fun _ _ _ h => h) (Or.inl ⟨by rfl, ?_⟩) SW ?_
        · intro W4 hW4
          obtain ⟨x0, x1, x2⟩ := hW4
          go_simp <;> first | done | rfl | (rw [IntKind.wrap_i64]; omega) | omega
        go_simp
        refine wpAnyH_take (i := 4) (v := .int .i64 (L1 : Nat)) rfl (by kernel_rfl) (by kernel_rfl) (by kernel_rfl) (fun _ _ _ h => h) (Or.inl ⟨by rfl, ?_⟩) SW ?_
        · intro W4 hW4
          obtain ⟨x0, x1, x2⟩ := hW4
          go_simp <;> first | done | rfl | (rw [IntKind.wrap_i64]; omega) | omega
        go_simp
        refine wpAnyH_take (i := 5) (v := .int .i64 (l : Nat)) rfl (by kernel_rfl) (by kernel_rfl) (by kernel_rfl) (fun _ _ _ h => h) (Or.inl ⟨by rfl, ?_⟩) SW ?_
        · intro W4 hW4
          have hcl := HCL.out
          go_simp <;> first | done | rfl | (rw [IntKind.wrap_i64]; omega) | omega
        go_simp
        refine wpAnyH_ready (rs := [0, 3]) (by kernel_rfl) (by simp) ?_
        refine AllReadyH.cons rfl (fun K1 hK1 => ?_) (AllReadyH.cons rfl (fun K1 hK1 => ?_) AllReadyH.nil)
        · go_simp
          refine hK1.out _ _ SW (fun SW => ?_)
          clear hK1 K1
          go_simp
          refine wpAnyH_ready (rs := [3]) (by kernel_rfl) (by simp) ?_
          refine AllReadyH.cons rfl (fun K1 hK1 => ?_) AllReadyH.nil
          go_simp
          refine (theOther_any m hm3 _).mono ?_
          rintro e w5 ⟨rfl, hw5⟩
          subst w5
          refine hK1.out _ _ SW (fun SW => ?_)
          clear hK1 K1
          go_simp
          refine wpAnyH_ready (rs := [6]) (by kernel_rfl) (by simp) ?_
          refine AllReadyH.cons rfl (fun K1 hK1 => ?_) AllReadyH.nil
          go_simp
          refine (HCALL.out _ (HW3.out.grow (Below.refl _ _).drew) cc.1).mono ?_
          rintro e w6 ⟨rfl, hb6⟩
          have B6 : Below W3.heap.size W3 w6 := (Below.refl _ _).drew.trans hb6
          have cn6 := (B6.cell (p := ⟨w.heap.size + 2, 0, none⟩) (World.block_lt_of_cell? W3 _ cn)).trans cn
          have fn6 := (World.frozen?_of_block (w := W3) (B6.block (w.heap.size + 2) (World.block_lt_of_cell? W3 _ cn))).trans fn
          refine hK1.out _ _ (SF.out w6 B6) (fun SW => ?_)
          clear hK1 K1 hb6
          go_simp
          refine wpAnyH_take (i := 7) (v := .int .i64 ((NV + V : Nat) : Int)) rfl (by kernel_rfl) (by kernel_rfl) (by kernel_rfl) (fun _ _ _ h => h) (Or.inl ⟨by rfl, ?_⟩) SW ?_
          · intro W4 hW4
            go_simp <;> first | done | rfl | (rw [IntKind.wrap_i64]; omega) | omega
          go_simp
          refine wpAnyH_ready (rs := [8]) (by kernel_rfl) (by simp) ?_
          refine AllReadyH.cons rfl (fun K1 hK1 => ?_) AllReadyH.nil
          go_simp
          refine hK1.out _ _ (SS.out w6 (SF.out w6 B6) _) (fun SW => ?_)
          clear hK1 K1
          go_simp
          refine wpAnyH_done (by kernel_rfl) ?_ _
          have FF := FIN.out w6 B6 cn6 fn6
          exact FF
        · go_simp
          refine (theOther_any m hm3 _).mono ?_
          rintro e w5 ⟨rfl, hw5⟩
          subst w5
          refine hK1.out _ _ SW (fun SW => ?_)
          clear hK1 K1
          go_simp
          refine wpAnyH_ready (rs := [0, 6]) (by kernel_rfl) (by simp) ?_
          refine AllReadyH.cons rfl (fun K1 hK1 => ?_) (AllReadyH.cons rfl (fun K1 hK1 => ?_) AllReadyH.nil)
          · go_simp
            refine hK1.out _ _ SW (fun SW => ?_)
            clear hK1 K1
            go_simp
            refine wpAnyH_ready (rs := [6]) (by kernel_rfl) (by simp) ?_
            refine AllReadyH.cons rfl (fun K1 hK1 => ?_) AllReadyH.nil
            go_simp
            refine (HCALL.out _ (HW3.out.grow (Below.refl _ _).drew) cc.1).mono ?_
            rintro e w6 ⟨rfl, hb6⟩
            have B6 : Below W3.heap.size W3 w6 := (Below.refl _ _).drew.trans hb6
            have cn6 := (B6.cell (p := ⟨w.heap.size + 2, 0, none⟩) (World.block_lt_of_cell? W3 _ cn)).trans cn
            have fn6 := (World.frozen?_of_block (w := W3) (B6.block (w.heap.size + 2) (World.block_lt_of_cell? W3 _ cn))).trans fn
            refine hK1.out _ _ (SF.out w6 B6) (fun SW => ?_)
            clear hK1 K1 hb6
            go_simp
            refine wpAnyH_take (i := 7) (v := .int .i64 ((NV + V : Nat) : Int)) rfl (by kernel_rfl) (by kernel_rfl) (by kernel_rfl) (fun _ _ _ h => h) (Or.inl ⟨by rfl, ?_⟩) SW ?_
            · intro W4 hW4
              go_simp <;> first | done | rfl | (rw [IntKind.wrap_i64]; omega) | omega
            go_simp
            refine wpAnyH_ready (rs := [8]) (by kernel_rfl) (by simp) ?_
            refine AllReadyH.cons rfl (fun K1 hK1 => ?_) AllReadyH.nil
            go_simp
            refine hK1.out _ _ (SS.out w6 (SF.out w6 B6) _) (fun SW => ?_)
            clear hK1 K1
            go_simp
            refine wpAnyH_done (by kernel_rfl) ?_ _
            have FF := FIN.out w6 B6 cn6 fn6
            exact FF
          · go_simp
            refine (HCALL.out _ (HW3.out.grow (Below.refl _ _).drew) cc.1).mono ?_
            rintro e w6 ⟨rfl, hb6⟩
            have B6 : Below W3.heap.size W3 w6 := (Below.refl _ _).drew.trans hb6
            have cn6 := (B6.cell (p := ⟨w.heap.size + 2, 0, none⟩) (World.block_lt_of_cell? W3 _ cn)).trans cn
            have fn6 := (World.frozen?_of_block (w := W3) (B6.block (w.heap.size + 2) (World.block_lt_of_cell? W3 _ cn))).trans fn
            refine hK1.out _ _ (SF.out w6 B6) (fun SW => ?_)
            clear hK1 K1 hb6
            go_simp
            refine wpAnyH_ready (rs := [0]) (by kernel_rfl) (by simp) ?_
            refine AllReadyH.cons rfl (fun K1 hK1 => ?_) AllReadyH.nil
            go_simp
            refine hK1.out _ _ SW (fun SW => ?_)
            clear hK1 K1
            go_simp
            refine wpAnyH_take (i := 7) (v := .int .i64 ((NV + V : Nat) : Int)) rfl (by kernel_rfl) (by kernel_rfl) (by kernel_rfl) (fun _ _ _ h => h) (Or.inl ⟨by rfl, ?_⟩) SW ?_
            · intro W4 hW4
              go_simp <;> first | done | rfl | (rw [IntKind.wrap_i64]; omega) | omega
            go_simp
            refine wpAnyH_ready (rs := [8]) (by kernel_rfl) (by simp) ?_
            refine AllReadyH.cons rfl (fun K1 hK1 => ?_) AllReadyH.nil
            go_simp
            refine hK1.out _ _ (SS.out w6 (SF.out w6 B6) _) (fun SW => ?_)
            clear hK1 K1
            go_simp
            refine wpAnyH_done (by kernel_rfl) ?_ _
            have FF := FIN.out w6 B6 cn6 fn6
            exact FF
    · have HV0 : Hid (V = 0) := hide (by rw [HV.out, if_neg hcase])
      have hin : inR g.W g.H (Z.set px (m : Int)) px g.k = true := by
        cases hI : inR g.W g.H (Z.set px (m : Int)) px g.k with
        | false => exact absurd (Or.inr hI) hcase
        | true => rfl
      have hl1 : ((L1 : Int) == 1) = false := by have h1 := HL1.out; have h2 : ¬ l = 0 := fun e => hcase (Or.inl e); simp; omega
      rw [hin]
      clear hcase HV
      gi_wp2
      refine ⟨Keeps.refl _ _, ?_, fn, HKK.out⟩
      rw [HSM.out, HV0.out, Nat.add_zero]
      exact cn
  case done =>
    rintro D2 W hD2 ⟨k1, k2, k3⟩ ⟨hRW, hob⟩ hDD
    rw [← HS.out] at k1
    have HK3 := hide k3
    have HOB := hide hob
    have hRb : R ≤ 10000000 := by
      have h1 := sum_bd T 100000 HTB.out D
      rw [← HS.out] at h1
      have : D.length * 100000 ≤ 10 * 100000 := Nat.mul_le_mul_right _ (by have := HDL.out; omega)
      omega
    clear k3 hob hRW
    gi_wp2
    go_wp2
    refine ⟨by simp, .inl ⟨_, _, rfl, run_takeDeferred hDD, ?_⟩⟩
    refine ⟨_, results_tmp rfl _ _ _, ?_⟩
    refine ⟨rfl, ?_⟩
    have HB : Below w.heap.size w W := B2.trans ⟨HK3.out.os, HK3.out.tape, HK3.out.output, HK3.out.size, fun i hi => by
      by_cases e : i = g.cb
      · subst e; exact HOB.out
      · exact HK3.out.block i (by omega) (by omega)⟩
    exact HB.trans ((Keeps.put (X := fun k => w.heap.size ≤ k) (Keeps.refl _ W) (l := D2) (by omega) _).below (by have := HB.size; omega) (fun k hk e => by omega))

end Go.Proofs.YtaglhmkjdajgpaaDoor
