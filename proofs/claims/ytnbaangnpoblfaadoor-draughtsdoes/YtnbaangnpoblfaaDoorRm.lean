/-
  The document's moves, walked. No conditions beyond those that each theorem bears.
-/
import Derived.Test.YtnbaangnpoblfaaDoorRj0
import Derived.Test.YtnbaangnpoblfaaDoorPt
namespace Go.Proofs.YtnbaangnpoblfaaDoor
open Go.RowKit Go.Shelf

section
variable (Z : List Int) (t : Nat)
def plcK (k : Nat) : List Nat := (List.range (k + 1)).filter fun p => decide (1 ≤ p) && isO Z t p
def rJK (k : Nat) : List (List Nat) := (plcK Z t k).foldl (fun L p => putsN L (rjN Z t p 13 p [p] [])) []
def rSK (k : Nat) : List (List Nat) := (plcK Z t k).foldl (fun L p => putsN L (stR Z p)) []
/-- One direction's step. -/
def stB (p d : Nat) : List (List Nat) := if fwd (Z.getD p 0) d = true ∧ nb d p ≠ 0 ∧ Z.getD (nb d p) 0 = 0 then [[p, nb d p]] else []
def stK (p k : Nat) : List (List Nat) := (List.range k).flatMap fun i => stB Z p (dirR i)
end
theorem plcK_zero (Z : List Int) (t : Nat) : plcK Z t 0 = [] := rfl
theorem plcK_no {Z : List Int} {t k : Nat} (h : own3 (Z.getD (k + 1) 0) ≠ t) : plcK Z t (k + 1) = plcK Z t k := by
  unfold plcK; rw [List.range_succ, List.filter_append]; simp [isO]; exact h
theorem plcK_yes {Z : List Int} {t k : Nat} (h : own3 (Z.getD (k + 1) 0) = t) : plcK Z t (k + 1) = plcK Z t k ++ [k + 1] := by
  unfold plcK; rw [List.range_succ, List.filter_append]; simp [isO]; exact h
theorem plcK_end (Z : List Int) (t : Nat) : plcK Z t 32 = plc Z t := rfl
theorem plcK_le (Z : List Int) (t : Nat) {k : Nat} (hk : k ≤ 32) : (plcK Z t k).length ≤ (plc Z t).length := by
  unfold plcK plc
  exact (List.Sublist.filter _ (List.range_sublist.2 (by omega))).length_le
theorem plc_len {Z : List Int} {t : Nat} (hM : Mb Z t) : (plc Z t).length ≤ 12 := by
  have := (sn_ok hM).few'
  rw [bln_own, List.length_map] at this
  exact this
theorem rJK_yes {Z : List Int} {t k : Nat} (h : own3 (Z.getD (k + 1) 0) = t) : rJK Z t (k + 1) = putsN (rJK Z t k) (rjN Z t (k + 1) 13 (k + 1) [k + 1] []) := by
  unfold rJK; rw [plcK_yes h, List.foldl_append]; rfl
theorem rSK_yes {Z : List Int} {t k : Nat} (h : own3 (Z.getD (k + 1) 0) = t) : rSK Z t (k + 1) = putsN (rSK Z t k) (stR Z (k + 1)) := by
  unfold rSK; rw [plcK_yes h, List.foldl_append]; rfl
theorem rJK_no {Z : List Int} {t k : Nat} (h : own3 (Z.getD (k + 1) 0) ≠ t) : rJK Z t (k + 1) = rJK Z t k := by unfold rJK; rw [plcK_no h]
theorem rSK_no {Z : List Int} {t k : Nat} (h : own3 (Z.getD (k + 1) 0) ≠ t) : rSK Z t (k + 1) = rSK Z t k := by unfold rSK; rw [plcK_no h]

theorem putN_len (L : List (List Nat)) (x : List Nat) : (putN L x).length ≤ L.length + 1 := by
  unfold putN
  split
  · omega
  · simp; omega
theorem putsN_len : ∀ (M L : List (List Nat)), (putsN L M).length ≤ L.length + M.length
  | [], L => by simp [putsN]
  | x :: M, L => by
    have h1 := putsN_len M (putN L x)
    have h2 := putN_len L x
    show (putsN (putN L x) M).length ≤ _
    rw [List.length_cons]; omega
theorem fold_len (g : Nat → List (List Nat)) (B : Nat) (hg : ∀ p, (g p).length ≤ B) : ∀ (ps : List Nat) (L : List (List Nat)), (ps.foldl (fun L p => putsN L (g p)) L).length ≤ L.length + ps.length * B
  | [], L => by simp
  | p :: ps, L => by
    have h1 := fold_len g B hg ps (putsN L (g p))
    have h2 := putsN_len (g p) L
    have h3 := hg p
    rw [List.foldl_cons, List.length_cons, Nat.add_mul, Nat.one_mul]; omega
theorem rJK_len (Z : List Int) (t k : Nat) : (rJK Z t k).length ≤ (plcK Z t k).length * 67108864 := by
  have := fold_len (fun p => rjN Z t p 13 p [p] []) 67108864 (fun p => rjN_len 13 p [p] []) (plcK Z t k) []
  unfold rJK
  simpa using this
theorem stR_len (Z : List Int) (p : Nat) : (stR Z p).length ≤ 4 := by
  unfold stR
  rw [List.length_map]
  exact List.length_filterMap_le _ _
theorem rSK_len (Z : List Int) (t k : Nat) (hk : k ≤ 32) : (rSK Z t k).length ≤ 1000 := by
  have h1 := fold_len (fun p => stR Z p) 4 (fun p => stR_len Z p) (plcK Z t k) []
  have h2 : (plcK Z t k).length ≤ 33 := by
    unfold plcK
    exact Nat.le_trans (List.length_filter_le _ _) (by simp; omega)
  have h3 : (rSK Z t k).length ≤ (plcK Z t k).length * 4 := by unfold rSK; simpa using h1
  omega
theorem toI_one (p : Nat) : toI [p] = [(p : Int)] := rfl
theorem toI_nil : toI [] = [] := rfl
theorem putsN_nil (L : List (List Nat)) : putsN L [] = L := rfl
theorem putsN_app (L A B : List (List Nat)) : putsN L (A ++ B) = putsN (putsN L A) B := by unfold putsN; rw [List.foldl_append]
theorem stB_len (Z : List Int) (p d : Nat) : (stB Z p d).length ≤ 1 := by unfold stB; split <;> simp
theorem stK_len (Z : List Int) (p : Nat) : ∀ k, (stK Z p k).length ≤ k
  | 0 => by simp [stK]
  | k + 1 => by
    have h1 := stK_len Z p k
    have h2 := stB_len Z p (dirR k)
    unfold stK at h1 ⊢
    rw [List.range_succ, List.flatMap_append, List.length_append]
    simp only [List.flatMap_cons, List.flatMap_nil, List.append_nil]
    omega
theorem putsN_snoc (L M : List (List Nat)) (x : List Nat) : putsN L (M ++ [x]) = putN (putsN L M) x := by unfold putsN; rw [List.foldl_append]; rfl
theorem stK_zero (Z : List Int) (p : Nat) : stK Z p 0 = [] := rfl
theorem stK_succ (Z : List Int) (p k : Nat) : stK Z p (k + 1) = stK Z p k ++ stB Z p (dirR k) := by unfold stK; rw [List.range_succ, List.flatMap_append]; simp
theorem stK_four (Z : List Int) (p : Nat) : stK Z p 4 = stR Z p := by
  unfold stK stR
  have h0 : dirR 0 = 0 := rfl
  have h1 : dirR 1 = 2 := rfl
  have h2 : dirR 2 = 1 := rfl
  have h3 : dirR 3 = 3 := rfl
  have key : ∀ d, stB Z p d = ((stpN Z p d).map (·.1)).toList := fun d => by
    unfold stB stpN
    by_cases h : fwd (Z.getD p 0) d = true ∧ nb d p ≠ 0 ∧ Z.getD (nb d p) 0 = 0
    · rw [if_pos h, if_pos h]; rfl
    · rw [if_neg h, if_neg h]; rfl
  show stB Z p (dirR 0) ++ (stB Z p (dirR 1) ++ (stB Z p (dirR 2) ++ (stB Z p (dirR 3) ++ []))) = _
  rw [h0, h1, h2, h3, key, key, key, key]
  simp only [List.filterMap_cons, List.filterMap_nil]
  cases stpN Z p 0 <;> cases stpN Z p 2 <;> cases stpN Z p 1 <;> cases stpN Z p 3 <;> rfl

theorem Ir.two (O : Nat → Prop) (W : World) (a b : Nat) (hO : O W.heap.size) : Ir O (W.alloc (.cells #[.int .i64 (a : Nat), .int .i64 (b : Nat)] 3)) (some ⟨W.heap.size, 0, none⟩) 2 2 (toI [a, b]) := by
  have hh := heap_alloc_new W (.cells #[.int .i64 (a : Nat), .int .i64 (b : Nat)] 3)
  refine ⟨⟨rfl, Nat.le_refl _, by unfold maxLen; omega, (fun e => by cases e), fun _ => ⟨W.heap.size, 0, rfl, fun i hi => ?_⟩⟩, fun g off e => ?_, fun x e => by cases e; rfl⟩
  · rw [Nat.zero_add]
    have h2 : i = 0 ∨ i = 1 := by omega
    rcases h2 with rfl | rfl
    · unfold World.cell?; simp only [hh]; rfl
    · unfold World.cell?; simp only [hh]; rfl
  · simp only [Option.some.injEq, Addr.mk.injEq] at e
    obtain ⟨rfl, _⟩ := e
    exact ⟨hO, _, hh⟩

attribute [local irreducible] own3 fwd nb dkX dkY dkAt rjN toI dirR dX dY rJK rSK stK stB putN putsN rMv rJ rS

set_option maxRecDepth 100000 in
set_option maxHeartbeats 16000000 in
theorem DraughtsMoves_any (t : Nat) (a : Option Addr) (cz : Nat) (Z : List Int) (w : World) (h : Rd w a 33 cz Z) (hM : Mb Z t) (hJ : ∀ p, p ∈ plc Z t → RJn Z t p 13) :
    Calls Tryd.prog 16 #[.agg (dgA a 33 cz (t : Nat))] w fun e w' => ∃ v, e = .returned v ∧ Fl (fun k => w.heap.size ≤ k) 0 w' v ((rMv Z t).map toI) ∧ Below w.heap.size w w' := by
  have ht : t = 1 ∨ t = 2 := by have := hM.tt; omega
  obtain ⟨w1, hw1⟩ : ∃ w1, w.alloc (.cells (dgA a 33 cz (t : Nat)) 24) = w1 := ⟨_, rfl⟩
  have HB1 : Hid (Below w.heap.size w w1) := hide (by rw [← hw1]; exact (Below.refl _ _).alloc (Nat.le_refl _) _)
  have HG1 : Hid (Dg w1 w.heap.size a 33 cz (t : Nat)) := hide (by rw [← hw1]; exact Dg.new _ _ _ _ _)
  have hz1 := h.mono HB1.out
  have hcz := h.max
  have hccz := h.cap
  unfold maxLen at hcz
  obtain ⟨bz, oz, rfl, hzc⟩ := hz1.cells (by omega)
  have HZC := hide hzc
  have HZ1 := hide hz1
  have HP12 := hide (plc_len hM)
  have HPK := hide (fun k (hk : k ≤ 32) => plcK_le Z t hk)
  have HJL := hide (rJK_len Z t)
  have HSL := hide (fun k (hk : k ≤ 32) => rSK_len Z t k hk)
  have HJY := hide (fun k h => rJK_yes (Z := Z) (t := t) (k := k) h)
  have HSY := hide (fun k h => rSK_yes (Z := Z) (t := t) (k := k) h)
  have HJN := hide (fun k h => rJK_no (Z := Z) (t := t) (k := k) h)
  have HSN := hide (fun k h => rSK_no (Z := Z) (t := t) (k := k) h)
  have HPY := hide (fun k h => plcK_yes (Z := Z) (t := t) (k := k) h)
  have HRJ := hide hJ
  have HMP : Hid (∀ p, p ∈ plc Z t ↔ p ≤ 32 ∧ 1 ≤ p ∧ own3 (Z.getD p 0) = t) := hide (fun p => mem_plc)
  have HEND : Hid (rMv Z t = if rJK Z t 32 = [] then rSK Z t 32 else rJK Z t 32) := hide (by unfold rMv rJ rS rJK rSK; rw [plcK_end])
  obtain ⟨RS, hRS⟩ : ∃ RS, rMv Z t = RS := ⟨_, rfl⟩
  rw [hRS] at HEND ⊢
  have HT := hide ht
  have ht2 : t ≤ 2 := by omega
  have HJ0 : Hid (rJK Z t 0 = []) := hide (by unfold rJK; rfl)
  have HS0 : Hid (rSK Z t 0 = []) := hide (by unfold rSK; rfl)
  clear h hz1 hzc hM ht hRS hJ
  go_enter Tryd.func16, Tryd.ntmps16
  go_upto_region 1 with fail
  clear hw1
  go_wp2_with fail
  go_loopw [3, 4, 5] (fun v3 v4 v5 wr => ∃ k : Nat, v5 = .int .i64 ((k : Int) + 1) ∧ k ≤ 32 ∧ (∃ a3 n3 c3, v3 = .slice a3 n3 c3) ∧ (∃ a4 n4 c4, v4 = .slice a4 n4 c4) ∧ Hid (Fl (fun q => w1.heap.size ≤ q) 0 wr v3 ((rJK Z t k).map toI)) ∧ Hid (Fl (fun q => w1.heap.size ≤ q) 0 wr v4 ((rSK Z t k).map toI)) ∧ Hid (Below w1.heap.size w1 wr)) (fun _ _ v _ => 33 - (intOf v).toNat)
  case atStart => exact ⟨0, rfl, by omega, ⟨_, _, _, rfl⟩, ⟨_, _, _, rfl⟩, hide (by rw [HJ0.out]; exact Fl.nil _ _ _), hide (by rw [HS0.out]; exact Fl.nil _ _ _), hide (Below.refl _ _)⟩
  case round =>
    obtain ⟨k, rfl, hk, ⟨a3, n3, c3, rfl⟩, ⟨a4, n4, c4, rfl⟩, hF3, hF4, hB⟩ := hrel
    by_cases hk2 : k < 32
    · have hle : (k : Int) + 1 < 33 := by omega
      have hk1 : (k : Int) + 1 = ((k + 1 : Nat) : Int) := by omega
      have HG2 := hide (HG1.out.below hB.out HG1.out.lt)
      have HCZ : Hid (∀ q, q ≤ 32 → wr.cell? ⟨bz, oz + q, none⟩ = some (.int .i64 (Z.getD q 0))) := hide (fun q hq => (hB.out.cell (World.block_lt_of_cell? w1 _ (HZC.out q (by omega)))).trans (HZC.out q (by omega)))
      have HCP := hide (HCZ.out (k + 1) (by omega))
      have HZ2 := hide (HZ1.out.mono hB.out)
      have HJY1 := hide (HJY.out k)
      have HSY1 := hide (HSY.out k)
      have HJN1 := hide (HJN.out k)
      have HSN1 := hide (HSN.out k)
      have HPY1 := hide (HPY.out k)
      have HPK1 := hide (HPK.out (k + 1) (by omega))
      have HJL1 := hide (HJL.out k)
      have HSL1 := hide (HSL.out k (by omega))
      have HMP1 := hide (HMP.out (k + 1))
      have HSF := hide (stK_four Z (k + 1))
      generalize hK : k + 1 = p at *
      rw [hk1]
      have hp1 : 1 ≤ p := by omega
      have hp32 : p ≤ 32 := by omega
      have hp33 : (p : Int) < 33 := by omega
      obtain ⟨pc, hpc⟩ : ∃ pc, Z.getD p 0 = pc := ⟨_, rfl⟩
      have HPC := hide hpc
      rw [hpc] at HCP HJY1 HSY1 HJN1 HSN1 HPY1 HMP1
      have HOW := hide (fun W => ownerOf_any pc W)
      have HFC : Hid (∀ W4, Below wr.heap.size wr W4 → W4.cell? ⟨w.heap.size, 0, none⟩ = some (.slice (some ⟨bz, oz, none⟩) 33 cz) ∧ W4.cell? ⟨w.heap.size, 1, none⟩ = some (.int .i64 (t : Nat)) ∧ W4.cell? ⟨bz, oz + p, none⟩ = some (.int .i64 pc)) := hide (fun W4 hb => ⟨(HG2.out.below hb HG2.out.lt).cells.1, (HG2.out.below hb HG2.out.lt).cells.2, (hb.cell (World.block_lt_of_cell? wr _ HCP.out)).trans HCP.out⟩)
      clear hpc hk1
      go_upto_region 5 with fail
      refine wp_region_held (S := fun W4 => Below wr.heap.size wr W4) (by kernel_rfl) ?_
      change wpAnyH _ _ _ _ _ _ _ _ (World.drew _)
      have SW : Below wr.heap.size wr wr.drew := (Below.refl _ wr).drew
      refine wpAnyH_take (i := 0) (v := .pointer (some ⟨w.heap.size, 0, none⟩)) rfl (by kernel_rfl) (by kernel_rfl) (by kernel_rfl) (fun _ _ _ h => h) (Or.inl ⟨by rfl, ?_⟩) SW ?_
      · intro W4 hW4
        go_simp <;> first | done | rfl | (rw [IntKind.wrap_i64]; omega) | omega
      go_simp
      refine wpAnyH_take (i := 1) (v := .slice (some ⟨bz, oz, none⟩) 33 cz) rfl (by kernel_rfl) (by kernel_rfl) (by kernel_rfl) (fun _ _ _ h => h) (Or.inl ⟨by rfl, ?_⟩) SW ?_
      · intro W4 hW4
        have x0 := (HFC.out W4 hW4).1
        go_simp <;> first | done | rfl | (rw [IntKind.wrap_i64]; omega) | omega
      go_simp
      refine wpAnyH_take (i := 2) (v := .int .i64 (p : Nat)) rfl (by kernel_rfl) (by kernel_rfl) (by kernel_rfl) (fun _ _ _ h => h) (Or.inl ⟨by rfl, ?_⟩) SW ?_
      · intro W4 hW4
        go_simp <;> first | done | rfl | (rw [IntKind.wrap_i64]; omega) | omega
      go_simp
      refine wpAnyH_take (i := 3) (v := .pointer (some ⟨bz, oz + p, none⟩)) rfl (by kernel_rfl) (by kernel_rfl) (by kernel_rfl) (fun _ _ _ h => h) (Or.inl ⟨by rfl, ?_⟩) SW ?_
      · intro W4 hW4
        go_simp <;> first | done | rfl | (rw [IntKind.wrap_i64]; omega) | omega
      go_simp
      refine wpAnyH_take (i := 4) (v := .int .i64 pc) rfl (by kernel_rfl) (by kernel_rfl) (by kernel_rfl) (fun _ _ _ h => h) (Or.inl ⟨by rfl, ?_⟩) SW ?_
      · intro W4 hW4
        have x0 := (HFC.out W4 hW4).2.2
        go_simp <;> first | done | rfl | (rw [IntKind.wrap_i64]; omega) | omega
      go_simp
      refine wpAnyH_take (i := 6) (v := .pointer (some ⟨w.heap.size, 1, none⟩)) rfl (by kernel_rfl) (by kernel_rfl) (by kernel_rfl) (fun _ _ _ h => h) (Or.inl ⟨by rfl, ?_⟩) SW ?_
      · intro W4 hW4
        go_simp <;> first | done | rfl | (rw [IntKind.wrap_i64]; omega) | omega
      go_simp
      refine wpAnyH_take (i := 7) (v := .int .i64 (t : Nat)) rfl (by kernel_rfl) (by kernel_rfl) (by kernel_rfl) (fun _ _ _ h => h) (Or.inl ⟨by rfl, ?_⟩) SW ?_
      · intro W4 hW4
        have x0 := (HFC.out W4 hW4).2.1
        go_simp <;> first | done | rfl | (rw [IntKind.wrap_i64]; omega) | omega
      go_simp
      refine wpAnyH_ready (rs := [5]) (by kernel_rfl) (by simp) ?_
      refine AllReadyH.cons rfl (fun K1 hK1 => ?_) AllReadyH.nil
      go_simp
      refine (HOW.out _).mono ?_
      rintro r w5 ⟨rfl, hw5⟩
      subst w5
      refine hK1.out _ _ SW (fun SW => ?_)
      clear hK1 K1
      go_simp
      by_cases how : own3 pc = t
      rotate_left
      · have hne : (((own3 pc : Nat) : Int) != (t : Int)) = true := by simp; omega
        refine wpAnyH_take (i := 8) (v := .bool true) rfl (by kernel_rfl) (by kernel_rfl) (by kernel_rfl) (fun _ _ _ h => h) (Or.inl ⟨by rfl, ?_⟩) SW ?_
        · intro W4 hW4
          have x0 := hne
          go_simp <;> first | done | rfl | (rw [IntKind.wrap_i64]; omega) | omega
        go_simp
        refine wpAnyH_done (by kernel_rfl) ?_ _
        have HF3 : Hid (Fl (fun q => w1.heap.size ≤ q) 0 wr.drew (.slice a3 n3 c3) ((rJK Z t p).map toI)) := hide (by rw [HJN1.out how]; exact hF3.out.mono SW)
        have HF4 : Hid (Fl (fun q => w1.heap.size ≤ q) 0 wr.drew (.slice a4 n4 c4) ((rSK Z t p).map toI)) := hide (by rw [HSN1.out how]; exact hF4.out.mono SW)
        have HBN : Hid (Below w1.heap.size w1 wr.drew) := hide (hB.out.trans (SW.mono hB.out.size))
        clear SW how hne
        go_wp2_with fail
        refine ⟨⟨k + 1, ?_, by omega, ⟨_, _, _, rfl⟩, ⟨_, _, _, rfl⟩, by rw [hK]; exact HF3, by rw [hK]; exact HF4, HBN⟩, by simp [intOf]; omega⟩
        simp; omega
      · have hne : (((own3 pc : Nat) : Int) != (t : Int)) = false := by rw [how]; simp
        refine wpAnyH_take (i := 8) (v := .bool false) rfl (by kernel_rfl) (by kernel_rfl) (by kernel_rfl) (fun _ _ _ h => h) (Or.inl ⟨by rfl, ?_⟩) SW ?_
        · intro W4 hW4
          have x0 := hne
          go_simp <;> first | done | rfl | (rw [IntKind.wrap_i64]; omega) | omega
        go_simp
        refine wpAnyH_done (by kernel_rfl) ?_ _
        have HBd := hide SW
        generalize wr.drew = wd at *
        have hJY := HJY1.out how
        have hSY := HSY1.out how
        have hPY := HPY1.out how
        have hpl : p ∈ plc Z t := HMP1.out.2 ⟨hp32, hp1, how⟩
        have HRC : Hid (∀ (la : Option Addr) (lc : Nat) (W' : World), Rd W' (some ⟨bz, oz, none⟩) 33 cz Z → Rd W' la 1 lc [(p : Int)] → Calls Tryd.prog 40 #[.agg (dgA (some ⟨bz, oz, none⟩) 33 cz (t : Nat)), .int .i64 pc, .slice la 1 lc, .slice none 0 0] W' fun e w' => ∃ v, e = .returned v ∧ Fl (fun k => W'.heap.size ≤ k) W'.heap.size w' v ((rjN Z t p 13 p [p] []).map toI) ∧ Below W'.heap.size W' w') := hide (fun la lc W' k1 k2 => by
          have := HRJ.out p hpl p [p] [] (some ⟨bz, oz, none⟩) la none cz lc 0 W' hp1 hp32 fu_start rfl rfl rfl k1 (by rw [toI_one]; exact k2) (by rw [toI_nil]; exact Rd.of_nil _)
          rw [HPC.out] at this
          exact this)
        have HML : Hid ((rjN Z t p 13 p [p] []).length ≤ 67108864) := hide (rjN_len 13 p [p] [])
        have HJB : Hid ((rJK Z t k).length + 67108864 ≤ 805306368) := hide (by
          have h1 := HPK1.out
          rw [hPY, List.length_append, List.length_singleton] at h1
          have h2 := HP12.out
          have h3 := HJL1.out
          have h4 : (plcK Z t k).length * 67108864 ≤ 11 * 67108864 := Nat.mul_le_mul_right _ (by omega)
          omega)
        obtain ⟨ML, hML⟩ : ∃ ML, rjN Z t p 13 p [p] [] = ML := ⟨_, rfl⟩
        rw [hML] at hJY HRC HML
        have HJY2 := hide hJY
        have HSY2 := hide hSY
        clear hJY hSY hPY hpl hML how hne SW
        go_upto_region 6 with fail
        have HFC2 : Hid (∀ W4, Below wd.heap.size wd W4 → W4.cell? ⟨w.heap.size, 0, none⟩ = some (.slice (some ⟨bz, oz, none⟩) 33 cz) ∧ W4.cell? ⟨w.heap.size, 1, none⟩ = some (.int .i64 (t : Nat)) ∧ W4.cell? ⟨bz, oz + p, none⟩ = some (.int .i64 pc)) := hide (fun W4 hb => HFC.out W4 (HBd.out.trans (hb.mono HBd.out.size)))
        have HD7 : Hid (∀ W4, Below wd.heap.size wd W4 → W4.rangeAt w.heap.size 0 [.slice (some ⟨bz, oz, none⟩) 33 cz, .int .i64 (t : Nat)]) := hide (fun W4 hb => by
          obtain ⟨g1, g2, -⟩ := HFC2.out W4 hb
          intro jj v hv
          rw [Nat.zero_add]
          match jj, hv with
          | 0, hv => rw [g1]; exact hv
          | 1, hv => rw [g2]; exact hv
          | jj + 2, hv => simp at hv)
        refine wp_region_held (S := fun W4 => Below wd.heap.size wd W4) (by kernel_rfl) ?_
        change wpAnyH _ _ _ _ _ _ _ _ (World.drew _)
        have SW : Below wd.heap.size wd wd.drew := (Below.refl _ wd).drew
        refine wpAnyH_take (i := 0) (v := .agg (dgA (some ⟨bz, oz, none⟩) 33 cz (t : Nat))) rfl (by kernel_rfl) (by kernel_rfl) (by kernel_rfl) (fun _ _ _ h => h) (yieldsIf_load_mid (by rfl) 24 _ rfl w.heap.size 0 (by rfl) [.slice (some ⟨bz, oz, none⟩) 33 cz, .int .i64 (t : Nat)] _ (fun W hW => HD7.out W hW) Tryd.underlying24 rfl size24) SW ?_
        go_simp
        refine wpAnyH_take (i := 1) (v := .pointer (some ⟨w.heap.size, 0, none⟩)) rfl (by kernel_rfl) (by kernel_rfl) (by kernel_rfl) (fun _ _ _ h => h) (Or.inl ⟨by rfl, ?_⟩) SW ?_
        · intro W4 hW4
          go_simp <;> first | done | rfl | (rw [IntKind.wrap_i64]; omega) | omega
        go_simp
        refine wpAnyH_take (i := 2) (v := .slice (some ⟨bz, oz, none⟩) 33 cz) rfl (by kernel_rfl) (by kernel_rfl) (by kernel_rfl) (fun _ _ _ h => h) (Or.inl ⟨by rfl, ?_⟩) SW ?_
        · intro W4 hW4
          have x0 := (HFC2.out W4 hW4).1
          go_simp <;> first | done | rfl | (rw [IntKind.wrap_i64]; omega) | omega
        go_simp
        refine wpAnyH_take (i := 3) (v := .int .i64 (p : Nat)) rfl (by kernel_rfl) (by kernel_rfl) (by kernel_rfl) (fun _ _ _ h => h) (Or.inl ⟨by rfl, ?_⟩) SW ?_
        · intro W4 hW4
          go_simp <;> first | done | rfl | (rw [IntKind.wrap_i64]; omega) | omega
        go_simp
        refine wpAnyH_take (i := 4) (v := .pointer (some ⟨bz, oz + p, none⟩)) rfl (by kernel_rfl) (by kernel_rfl) (by kernel_rfl) (fun _ _ _ h => h) (Or.inl ⟨by rfl, ?_⟩) SW ?_
        · intro W4 hW4
          go_simp <;> first | done | rfl | (rw [IntKind.wrap_i64]; omega) | omega
        go_simp
        refine wpAnyH_take (i := 5) (v := .int .i64 pc) rfl (by kernel_rfl) (by kernel_rfl) (by kernel_rfl) (fun _ _ _ h => h) (Or.inl ⟨by rfl, ?_⟩) SW ?_
        · intro W4 hW4
          have x0 := (HFC2.out W4 hW4).2.2
          go_simp <;> first | done | rfl | (rw [IntKind.wrap_i64]; omega) | omega
        go_simp
        refine wpAnyH_take (i := 6) (v := .int .i64 (p : Nat)) rfl (by kernel_rfl) (by kernel_rfl) (by kernel_rfl) (fun _ _ _ h => h) (Or.inl ⟨by rfl, ?_⟩) SW ?_
        · intro W4 hW4
          go_simp <;> first | done | rfl | (rw [IntKind.wrap_i64]; omega) | omega
        go_simp
        refine wpAnyH_ready (rs := [7]) (by kernel_rfl) (by simp) ?_
        refine AllReadyH.cons rfl (fun K1 hK1 => ?_) AllReadyH.nil
        go_simp
        have hR5 := Rd.one wd.drew (p : Nat)
        have B5 : Below wd.heap.size wd (wd.drew.alloc (.cells #[.int .i64 (p : Nat)] 3)) := SW.alloc SW.size _
        refine hK1.out _ _ B5 (fun SW => ?_)
        clear hK1 K1
        have hdr : wd.drew.alloc (.cells #[.int .i64 (p : Nat)] 3) = (wd.alloc (.cells #[.int .i64 (p : Nat)] 3)).drew := rfl
        rw [hdr] at hR5 B5
        go_simp
        generalize (wd.alloc (.cells #[.int .i64 (p : Nat)] 3)).drew = W5 at *
        clear hdr
        refine wpAnyH_ready (rs := [8]) (by kernel_rfl) (by simp) ?_
        refine AllReadyH.cons rfl (fun K1 hK1 => ?_) AllReadyH.nil
        go_simp
        refine (HRC.out _ _ W5 ((HZ2.out.mono HBd.out).mono B5) hR5).mono ?_
        rintro r W6 ⟨v6, rfl, hF6, hb6⟩
        have B6 := B5.trans (hb6.mono B5.size)
        have HF6 : Hid (Fl (fun q => w1.heap.size ≤ q) 0 W6 v6 (ML.map toI)) := hide ((hF6.wide (fun q _ hq => by have := B5.size; have := HBd.out.size; have := hB.out.size; omega)).base (Nat.zero_le _))
        obtain ⟨a6, c6, rfl⟩ := hF6.form
        rw [show (ML.map toI).length = ML.length by simp] at HF6 ⊢
        refine hK1.out _ _ B6 (fun SW => ?_)
        clear hK1 K1 hF6 hb6 hR5
        go_simp
        refine wpAnyH_ready (rs := [9]) (by kernel_rfl) (by simp) ?_
        refine AllReadyH.cons rfl (fun K1 hK1 => ?_) AllReadyH.nil
        go_simp
        refine hK1.out _ _ SW (fun SW => ?_)
        clear hK1 K1
        go_simp
        refine wpAnyH_done (by kernel_rfl) ?_ _
        have HB6 : Hid (Below w1.heap.size w1 W6) := hide (hB.out.trans ((HBd.out.trans (B6.mono HBd.out.size)).mono hB.out.size))
        have HF36 := hide (hF3.out.mono (HBd.out.trans (B6.mono HBd.out.size)))
        have HF46 := hide (hF4.out.mono (HBd.out.trans (B6.mono HBd.out.size)))
        clear SW B5 B6 hF3 hF4 hB HBd HFC HFC2 HD7 HG2 HCZ HCP HZ2
        have HMI : Hid (∀ i, (ML.map toI).getD i [] = toI (ML.getD i [])) := hide (fun i => map_toI_getD ML i)
        obtain ⟨nM, hnM⟩ : ∃ nM, ML.length = nM := ⟨_, rfl⟩
        have HNM := hide hnM
        rw [hnM] at HML HF6 ⊢
        have HTK : Hid (∀ i, i < nM → ML.take (i + 1) = ML.take i ++ [ML.getD i []]) := hide (fun i hi => by
          rw [List.take_succ_eq_append_getElem (by omega)]
          simp [List.getD, show i < ML.length by omega])
        have hnMb := HML.out
        clear hnM
        go_wp2_with fail
        go_loopw [3, 7] (fun v3 v7 wr => ∃ i : Nat, v7 = .int .i64 i ∧ i ≤ nM ∧ (∃ a3 n3 c3, v3 = .slice a3 n3 c3) ∧ Hid (Fl (fun q => w1.heap.size ≤ q) 0 wr v3 ((putsN (rJK Z t k) (ML.take i)).map toI)) ∧ Hid (Below W6.heap.size W6 wr)) (fun _ v _ => nM - (intOf v).toNat)
        case atStart => exact ⟨0, rfl, by omega, ⟨_, _, _, rfl⟩, hide (by rw [List.take_zero, putsN_nil]; exact HF36.out), hide (Below.refl _ _)⟩
        case round =>
          clear HF36
          obtain ⟨i, rfl, hi, ⟨a3, n3, c3, rfl⟩, hF3, hB⟩ := hrel
          by_cases hin : i < nM
          · have hin' : (i : Int) < (nM : Int) := by omega
            have FR := (HF6.out.mono hB.out).fr
            obtain ⟨b6, o6, rfl, hc6⟩ := FR.cells (by omega)
            obtain ⟨xa, xc, hcx, hIx⟩ := hc6 i hin
            rw [HMI.out i, toI_len] at hcx hIx
            have hcm6 := FR.max
            unfold maxLen at hcm6
            have hlen : (putsN (rJK Z t k) (ML.take i)).length ≤ 900000000 := by
              have h1 := putsN_len (ML.take i) (rJK Z t k)
              have h2 := HJB.out
              rw [List.length_take] at h1
              have := HNM.out
              omega
            have HPW := hide (putWay_any (fun q => w1.heap.size ≤ q) (.slice a3 n3 c3) (putsN (rJK Z t k) (ML.take i)) xa xc (ML.getD i []) wr hF3.out hIx hlen (fun q hq => by have := hB.out.size; have := HB6.out.size; omega))
            have HTK1 : Hid (putsN (rJK Z t k) (ML.take (i + 1)) = putN (putsN (rJK Z t k) (ML.take i)) (ML.getD i [])) := hide (by rw [HTK.out i hin, putsN_snoc])
            generalize (ML.getD i []).length = xn at *
            clear FR hc6 hIx hlen
            go_wp2_with fail
            refine HPW.out.mono ?_
            rintro e w8 ⟨v8, rfl, hF8, hb8⟩
            have HF8 : Hid (Fl (fun q => w1.heap.size ≤ q) 0 w8 v8 ((putsN (rJK Z t k) (ML.take (i + 1))).map toI)) := hide (by rw [HTK1.out]; exact hF8)
            have HB8 : Hid (Below W6.heap.size W6 w8) := hide (hB.out.trans (hb8.mono hB.out.size))
            obtain ⟨a8, c8, rfl⟩ := hF8.form
            generalize ((putN (putsN (rJK Z t k) (ML.take i)) (ML.getD i [])).map toI).length = n8 at *
            clear hF8 hb8
            go_wp2_with fail
            refine ⟨⟨i + 1, by go_num, by omega, ⟨_, _, _, rfl⟩, HF8, HB8⟩, by simp [intOf]; omega⟩
          · obtain rfl : i = nM := by omega
            have hin' : ¬ (i : Int) < (i : Int) := by omega
            have HF3 : Hid (Fl (fun q => w1.heap.size ≤ q) 0 wr (.slice a3 n3 c3) ((rJK Z t p).map toI)) := hide (by
              have := hF3.out
              rw [List.take_of_length_le (by rw [HNM.out]; exact Nat.le_refl _), ← HJY2.out] at this
              exact this)
            have HF4 := hide (HF46.out.mono hB.out)
            have HB7 : Hid (Below w1.heap.size w1 wr) := hide (HB6.out.trans (hB.out.mono HB6.out.size))
            clear hF3 hB HF46 HF6
            go_wp2_with fail
            have HG7 := hide (HG1.out.below HB7.out HG1.out.lt)
            have HDK := hide (fun d (hd : d < 4) => dk_nb d hd p (by omega) (by omega))
            have hrg := dk_rng p (by omega)
            have HDX := hide (fun W => darkX_any p hp1 hp32 W)
            have HDY := hide (fun W => darkY_any p hp1 hp32 W)
            have HNL := hide (fun d (hd : d < 4) => nb_le (d := d) (p := p) hd hp32)
            have HSB : Hid (∀ d, stB Z p d = if fwd pc d = true ∧ nb d p ≠ 0 ∧ Z.getD (nb d p) 0 = 0 then [[p, nb d p]] else []) := hide (fun d => by unfold stB; rw [HPC.out])
            have HKS := hide (stK_succ Z p)
            have HKL := hide (stK_len Z p)
            have HLS0 := hide (putsN_nil (rSK Z t k))
            have HK0 := hide (stK_zero Z p)
            generalize wr = wA at *
            go_loopw [4, 8] (fun v4 v8 wr => ∃ (i : Nat) (x : Int), v8 = .int .i64 x ∧ i ≤ 2 ∧ -1 ≤ x ∧ x ≤ 3 ∧ Hid (x = 2 * (i : Int) - 1) ∧ (∃ a4 n4 c4, v4 = .slice a4 n4 c4) ∧ Hid (Fl (fun q => w1.heap.size ≤ q) 0 wr v4 ((putsN (rSK Z t k) (stK Z p (2 * i))).map toI)) ∧ Hid (Below wA.heap.size wA wr)) (fun _ v _ => 4 - (intOf v + 1).toNat)
            case atStart => exact ⟨0, -1, rfl, by omega, by omega, by omega, hide (by omega), ⟨_, _, _, rfl⟩, hide (by rw [HK0.out, HLS0.out]; exact HF4.out), hide (Below.refl _ _)⟩
            case round =>
              clear HF4
              obtain ⟨ii, x, rfl, hii, hx1, hx2, hx, ⟨a4, n4, c4, rfl⟩, hFl, hB⟩ := hrel
              by_cases hi2 : ii < 2
              · have hxl : x ≤ 1 := by have := hx.out; omega
                go_wp2_with fail
                go_loopw [4, 9] (fun v4 v9 wr2 => ∃ (j : Nat) (y : Int), v9 = .int .i64 y ∧ j ≤ 2 ∧ -1 ≤ y ∧ y ≤ 3 ∧ Hid (y = 2 * (j : Int) - 1) ∧ (∃ a4 n4 c4, v4 = .slice a4 n4 c4) ∧ Hid (Fl (fun q => w1.heap.size ≤ q) 0 wr2 v4 ((putsN (rSK Z t k) (stK Z p (2 * ii + j))).map toI)) ∧ Hid (Below wA.heap.size wA wr2)) (fun _ v _ => 4 - (intOf v + 1).toNat)
                case atStart => exact ⟨0, -1, rfl, by omega, by omega, by omega, hide (by omega), ⟨_, _, _, rfl⟩, hFl, hB⟩
                case round =>
                  clear hFl hB
                  obtain ⟨j, y, rfl, hj, hy1, hy2, hy, ⟨a4, n4, c4, rfl⟩, hFl, hB⟩ := hrel
                  by_cases hj2 : j < 2
                  · have hyl : y ≤ 1 := by have := hy.out; omega
                    obtain ⟨d, hd⟩ : ∃ d, dirR (2 * ii + j) = d := ⟨_, rfl⟩
                    obtain ⟨dx, dy⟩ := dirR_x hi2 hj2
                    have hd4 : d < 4 := hd ▸ dirR_lt _
                    rw [hd, ← hx.out] at dx
                    rw [hd, ← hy.out] at dy
                    have HFW := hide (fun W => forwardMay_any pc d W)
                    rw [dy] at HFW
                    obtain ⟨k1, -⟩ := HDK.out d hd4
                    rw [dx, dy] at k1
                    have HA1 := hide (fun W => darkAt_any ((dkX p : Int) + x) ((dkY p : Int) + y) (by omega) (by omega) W)
                    rw [k1] at HA1
                    have hq32 := HNL.out d hd4
                    have HKS1 := hide (HKS.out (2 * ii + j))
                    rw [hd] at HKS1
                    have HSB1 := hide (HSB.out d)
                    obtain ⟨q, hq⟩ : ∃ q, nb d p = q := ⟨_, rfl⟩
                    rw [hq] at HA1 hq32 HSB1
                    obtain ⟨X, hX⟩ : ∃ X, dkX p = X := ⟨_, rfl⟩
                    obtain ⟨Y, hY⟩ : ∃ Y, dkY p = Y := ⟨_, rfl⟩
                    have HX1 := hide HDX.out
                    have HY1 := hide HDY.out
                    rw [hX] at HA1 HX1 hrg
                    rw [hY] at HA1 HY1 hrg
                    have hB1 := HB7.out.trans (hB.out.mono HB7.out.size)
                    obtain ⟨g0, -⟩ := (HG1.out.below hB1 HG1.out.lt).cells
                    have cq := (hB1.cell (World.block_lt_of_cell? w1 _ (HZC.out q (by omega)))).trans (HZC.out q (by omega))
                    have cp := (hB1.cell (World.block_lt_of_cell? w1 _ (HZC.out p (by omega)))).trans (HZC.out p (by omega))
                    rw [HPC.out] at cp
                    obtain ⟨zq, hzq⟩ : ∃ zq, Z.getD q 0 = zq := ⟨_, rfl⟩
                    rw [hzq] at cq HSB1
                    have hq33 : (q : Int) < 33 := by omega
                    have hp33' : (p : Int) < 33 := by omega
                    have HB2 := hide hB1
                    have HPL : Hid ((putsN (rSK Z t k) (stK Z p (2 * ii + j))).length ≤ 900000000) := hide (by
                      have h1 := putsN_len (stK Z p (2 * ii + j)) (rSK Z t k)
                      have h2 := HSL1.out
                      have h3 := HKL.out (2 * ii + j)
                      omega)
                    clear hd dx dy k1 hq hX hY hzq hd4 hB1
                    have back : Hid (stB Z p d = [] → Fl (fun q => w1.heap.size ≤ q) 0 wr (.slice a4 n4 c4) ((putsN (rSK Z t k) (stK Z p (2 * ii + (j + 1)))).map toI)) := hide (fun e => by
                      rw [show 2 * ii + (j + 1) = 2 * ii + j + 1 by omega, HKS1.out, e, List.append_nil]
                      exact hFl.out)
                    go_wp2_with fail
                    refine (HX1.out _).mono ?_
                    rintro e w9 ⟨rfl, hw9⟩
                    subst w9
                    go_wp2_with fail
                    refine (HY1.out _).mono ?_
                    rintro e w9 ⟨rfl, hw9⟩
                    subst w9
                    go_wp2_with fail
                    refine (HA1.out _).mono ?_
                    rintro e w9 ⟨rfl, hw9⟩
                    subst w9
                    by_cases hq0 : q = 0
                    · have q0 : ¬ (q : Int) > 0 := by omega
                      have HFN := hide (back.out (by rw [HSB1.out, if_neg (fun h => h.2.1 hq0)]))
                      clear hq0
                      go_wp2_with fail
                      refine ⟨⟨j + 1, y + 2, by go_num, by omega, by omega, by omega, hide (by have := hy.out; omega), ⟨_, _, _, rfl⟩, HFN, hB⟩, by simp [intOf]; omega⟩
                    · have q0 : (q : Int) > 0 := by omega
                      by_cases hz0 : zq = 0
                      · have z0 : (zq == 0) = true := by simpa using hz0
                        cases hfw : fwd pc d with
                        | false =>
                          have HFN := hide (back.out (by rw [HSB1.out, if_neg (fun h => by rw [hfw] at h; cases h.1)]))
                          rw [hfw] at HFW
                          clear hfw hz0
                          go_wp2_with fail
                          refine (HFW.out _).mono ?_
                          rintro e w9 ⟨rfl, hw9⟩
                          subst w9
                          go_wp2_with fail
                          refine ⟨⟨j + 1, y + 2, by go_num, by omega, by omega, by omega, hide (by have := hy.out; omega), ⟨_, _, _, rfl⟩, HFN, hB⟩, by simp [intOf]; omega⟩
                        | true =>
                          have HKN : Hid (putsN (rSK Z t k) (stK Z p (2 * ii + (j + 1))) = putN (putsN (rSK Z t k) (stK Z p (2 * ii + j))) [p, q]) := hide (by
                            rw [show 2 * ii + (j + 1) = 2 * ii + j + 1 by omega, HKS1.out, HSB1.out, if_pos ⟨hfw, hq0, hz0⟩, putsN_snoc])
                          rw [hfw] at HFW
                          have hOs : w1.heap.size ≤ wr.heap.size := HB2.out.size
                          have HPW := hide (putWay_any (fun q => w1.heap.size ≤ q) (.slice a4 n4 c4) (putsN (rSK Z t k) (stK Z p (2 * ii + j))) (some ⟨wr.heap.size, 0, none⟩) 2 [p, q] (wr.alloc (.cells #[.int .i64 (p : Nat), .int .i64 (q : Nat)] 3)) (hFl.out.mono ((Below.refl _ wr).alloc (Nat.le_refl _) _)) (Ir.two _ wr p q hOs) HPL.out (fun z hz => by rw [World.size_alloc] at hz; omega))
                          have HBa : Hid (Below wA.heap.size wA (wr.alloc (.cells #[.int .i64 (p : Nat), .int .i64 (q : Nat)] 3))) := hide (hB.out.alloc hB.out.size _)
                          clear hfw hz0
                          go_wp2_with fail
                          refine (HFW.out _).mono ?_
                          rintro e w9 ⟨rfl, hw9⟩
                          subst w9
                          go_wp2_with fail
                          refine HPW.out.mono ?_
                          rintro e w8 ⟨v8, rfl, hF8, hb8⟩
                          have HF8 : Hid (Fl (fun q => w1.heap.size ≤ q) 0 w8 v8 ((putsN (rSK Z t k) (stK Z p (2 * ii + (j + 1)))).map toI)) := hide (by rw [HKN.out]; exact hF8)
                          have HB8 : Hid (Below wA.heap.size wA w8) := hide (HBa.out.trans (hb8.mono HBa.out.size))
                          obtain ⟨a8, c8, rfl⟩ := hF8.form
                          generalize ((putN (putsN (rSK Z t k) (stK Z p (2 * ii + j))) [p, q]).map toI).length = n8 at *
                          clear hF8 hb8
                          go_wp2_with fail
                          refine ⟨⟨j + 1, y + 2, by go_num, by omega, by omega, by omega, hide (by have := hy.out; omega), ⟨_, _, _, rfl⟩, HF8, HB8⟩, by simp [intOf]; omega⟩
                      · have z0 : (zq == 0) = false := by simpa using hz0
                        have HFN := hide (back.out (by rw [HSB1.out, if_neg (fun h => hz0 h.2.2)]))
                        clear hz0
                        go_wp2_with fail
                        refine ⟨⟨j + 1, y + 2, by go_num, by omega, by omega, by omega, hide (by have := hy.out; omega), ⟨_, _, _, rfl⟩, HFN, hB⟩, by simp [intOf]; omega⟩
                  · obtain rfl : j = 2 := by omega
                    have hyl : ¬ y ≤ 1 := by have := hy.out; omega
                    have HFN : Hid (Fl (fun q => w1.heap.size ≤ q) 0 wr (.slice a4 n4 c4) ((putsN (rSK Z t k) (stK Z p (2 * (ii + 1)))).map toI)) := hFl
                    clear hFl
                    go_wp2_with fail
                    refine ⟨⟨ii + 1, x + 2, by go_num, by omega, by omega, by omega, hide (by have := hx.out; omega), ⟨_, _, _, rfl⟩, HFN, hB⟩, by simp [intOf]; omega⟩
              · obtain rfl : ii = 2 := by omega
                have hxl : ¬ x ≤ 1 := by have := hx.out; omega
                have HF4N : Hid (Fl (fun q => w1.heap.size ≤ q) 0 wr (.slice a4 n4 c4) ((rSK Z t p).map toI)) := hide (by
                  have := hFl.out
                  rw [show 2 * 2 = 4 from rfl, HSF.out, ← HSY2.out] at this
                  exact this)
                have HF3N := hide (HF3.out.mono hB.out)
                have HBN : Hid (Below w1.heap.size w1 wr) := hide (HB7.out.trans (hB.out.mono HB7.out.size))
                clear hFl hB
                go_wp2_with fail
                refine ⟨⟨k + 1, ?_, by omega, ⟨_, _, _, rfl⟩, ⟨_, _, _, rfl⟩, by rw [hK]; exact HF3N, by rw [hK]; exact HF4N, HBN⟩, by simp [intOf]; omega⟩
                simp; omega
    · obtain rfl : k = 32 := by omega
      have hn3 : n3 = (rJK Z t 32).length := by
        obtain ⟨a', c', e⟩ := hF3.out.form
        simp only [Value.slice.injEq] at e
        rw [e.2.1]; simp
      have wid : ∀ (q : Nat), q < wr.heap.size → w1.heap.size ≤ q → w.heap.size ≤ q := fun q _ hq => by have := HB1.out.size; omega
      by_cases hnil : rJK Z t 32 = []
      · have h0 : ¬ (n3 : Int) > 0 := by rw [hn3, hnil]; simp
        have HFN : Hid (Fl (fun q => w.heap.size ≤ q) 0 wr (.slice a4 n4 c4) (RS.map toI)) := hide (by rw [HEND.out, if_pos hnil]; exact hF4.out.wide wid)
        have HBN : Hid (Below w.heap.size w wr) := hide (HB1.out.trans (hB.out.mono HB1.out.size))
        clear hn3 hnil
        go_wp2_with fail
        go_ret
        exact ⟨_, rfl, HFN.out, HBN.out⟩
      · have h0 : (n3 : Int) > 0 := by have := List.length_pos_iff.2 hnil; omega
        have HFN : Hid (Fl (fun q => w.heap.size ≤ q) 0 wr (.slice a3 n3 c3) (RS.map toI)) := hide (by rw [HEND.out, if_neg hnil]; exact hF3.out.wide wid)
        have HBN : Hid (Below w.heap.size w wr) := hide (HB1.out.trans (hB.out.mono HB1.out.size))
        clear hn3 hnil
        go_wp2_with fail
        go_ret
        exact ⟨_, rfl, HFN.out, HBN.out⟩

end Go.Proofs.YtnbaangnpoblfaaDoor
