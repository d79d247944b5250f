/-
  Chess: the document's attackers, and whether a king is attacked, walked. No conditions beyond those that each theorem bears.
  Chess: which positions may be, said. No conditions beyond those that each theorem bears.
-/
import Derived.Test.YtdmlamnonbmboaaDoorQ09
import Derived.Test.YtdmlamnonbmboaaDoorQ08
namespace Go.Proofs.YtdmlamnonbmboaaDoor
open Go.RowKit Go.Shelf

def atP (Z : List Int) (t b n : Nat) : List Nat := (List.range n).filter fun i => sd (zg Z i) == (b : Int) && atR Z i t
theorem atP_all (Z : List Int) (t b : Nat) : atP Z t b 64 = atL Z t b := rfl
theorem atP_zero (Z : List Int) (t b : Nat) : atP Z t b 0 = [] := rfl
theorem atP_in {Z : List Int} {t b j : Nat} (h : (sd (zg Z j) == (b : Int) && atR Z j t) = true) : atP Z t b (j + 1) = atP Z t b j ++ [j] := by
  unfold atP; rw [List.range_succ, List.filter_append]; simp only [List.filter_cons, List.filter_nil, h, if_true]
theorem atP_out {Z : List Int} {t b j : Nat} (h : (sd (zg Z j) == (b : Int) && atR Z j t) = false) : atP Z t b (j + 1) = atP Z t b j := by
  unfold atP; rw [List.range_succ, List.filter_append]; simp only [List.filter_cons, List.filter_nil, h]; simp
theorem atP_len (Z : List Int) (t b j : Nat) : (atP Z t b j).length ≤ j := Nat.le_trans (List.length_filter_le _ _) (by simp)

theorem atL_len0 (Z : List Int) (t b : Nat) : (atL Z t b).length ≤ 64 := by
  unfold atL
  exact Nat.le_trans (List.length_filter_le _ _) (by simp)

attribute [local irreducible] atP atR sd

set_option maxRecDepth 100000 in
set_option maxHeartbeats 4000000 in
theorem AttackersOf_any (a : Option Addr) (c : Nat) (Z : List Int) (t b : Nat) (ht : t < 64) (hz : Pz Z) (w : World) (h : Rd w a 64 c Z) :
    Calls Tryd.prog 27 #[.slice a 64 c, .int .i64 t, .int .i64 b] w fun e w' => ∃ a' c', e = .returned (.slice a' (atL Z t b).length c') ∧ Rd w' a' (atL Z t b).length c' (toI (atL Z t b)) ∧ Below w.heap.size w w' := by
  have hcm := h.max
  unfold maxLen at hcm
  have hcc := h.cap
  have HR := hide h
  have HAT := hide (fun i (hi : i < 64) w h => Attacks_any a c Z i t hi ht (hz.2 i) w h)
  have HPS := hide pieceSide_any
  have HALL := hide (atP_all Z t b)
  have HB0 : Hid (Below w.heap.size w w) := hide (Below.refl _ w)
  rw [← HALL.out]
  clear h
  go_enter Tryd.func27, Tryd.ntmps27
  go_wp2_with fail
  go_loopw [7, 8] (fun u v wr => ∃ (j cp : Nat) (ad : Option Addr), v = .int .i64 j ∧ j ≤ 64 ∧ u = .slice ad (atP Z t b j).length cp ∧ Hid (wr.ownsRow w.heap.size 3 1 (.slice ad (atP Z t b j).length cp) (atP Z t b j).length ((toI (atP Z t b j)).map (Value.int .i64))) ∧ Hid (Below w.heap.size w wr)) (fun _ v _ => 64 - (intOf v).toNat)
  case atStart =>
    refine ⟨0, 0, none, rfl, by omega, ?_, ?_, HB0⟩
    · rw [atP_zero]; rfl
    · rw [atP_zero]; exact World.ownsRow_nil _ _ _ _
  case round =>
    obtain ⟨j, cp, ad, rfl, hj, rfl, hO, hB⟩ := hrel
    clear HB0
    by_cases hlt : j < 64
    · have hlt' : (j : Int) < 64 := by omega
      obtain ⟨bk, off, ea, hc⟩ := (HR.out.mono hB.out).cells (by omega)
      subst ea
      have cj : wr.cell? ⟨bk, off + j, none⟩ = some (.int .i64 (zg Z j)) := hc j hlt
      have hml := atP_len Z t b j
      have HAJ := hide (HAT.out j hlt wr (HR.out.mono hB.out))
      have HI := hide (fun h => atP_in (Z := Z) (t := t) (b := b) (j := j) h)
      have HU := hide (fun h => atP_out (Z := Z) (t := t) (b := b) (j := j) h)
      have HPJ := hide (HPS.out (zg Z j) wr)
      obtain ⟨ar, har⟩ : ∃ ar, atR Z j t = ar := ⟨_, rfl⟩
      obtain ⟨sz, hsz⟩ : ∃ sz, sd (zg Z j) = sz := ⟨_, rfl⟩
      rw [har] at HAJ HI HU
      rw [hsz] at HI HU HPJ
      generalize zg Z j = z at *
      clear hc har hsz
      by_cases hs : sz = (b : Int)
      · have hsb : (sz == (b : Int)) = true := by simp [hs]
        cases ar with
        | true =>
          have HE := hide (HI.out (by rw [hsb]; rfl))
          clear HI HU hs
          have hR1 : Rd (World.alloc wr (.cells #[.int .i64 (j : Nat)] 3)) (some ⟨wr.heap.size, 0, none⟩) 1 1 [((j : Nat) : Int)] := Rd.of_blk (Blk.new wr 3 [((j : Nat) : Int)] _ rfl) rfl (by decide)
          have hOa := hO.out.alloc (.cells #[.int .i64 (j : Nat)] 3)
          have hBa := hB.out.alloc hB.out.size (.cells #[.int .i64 (j : Nat)] 3)
          have hsz := hBa.size
          have HPL : Hid ((atP Z t b (j + 1)).length = (atP Z t b j).length + 1) := hide (by rw [HE.out]; simp)
          have HPI : Hid (toI (atP Z t b (j + 1)) = toI (atP Z t b j) ++ [((j : Nat) : Int)]) := hide (by rw [HE.out, toI_snoc])
          generalize hpl : (atP Z t b j).length = M at *
          clear hpl
          go_wp2_with (first | (go_at_call 54; refine HPJ.out.mono ?_; rintro e w5 ⟨rfl, hw⟩; subst w5) | (go_at_call 55; refine HAJ.out.mono ?_; rintro e w5 ⟨rfl, hw⟩; subst w5) | (at_builtin; refine wpList_append_rd _ rfl _ _ rfl w.heap.size _ M (toI (atP Z t b j)) rfl hOa (some ⟨wr.heap.size, 0, none⟩) 1 1 [((j : Nat) : Int)] rfl hR1 (by omega) hsz ?_))
          intro v' w6 hO6 hg6
          obtain ⟨ad6, cp6, rfl⟩ := slice_form hO6
          have HB6 := hide (hBa.grown hg6 (by omega) (fun q hq => by rcases hO.out.2 with ⟨e, _⟩ | ⟨g, cap, cur, e, hbg, _⟩ <;> rw [e] at hq <;> simp [Value.ownBlock] at hq; omega))
          have HO6 := hide hO6
          clear hO6 hg6 hR1 hOa hBa
          go_wp2_with fail
          refine ⟨⟨j + 1, cp6, ad6, by go_num, by omega, ?_, ?_, HB6⟩, by simp [intOf]; omega⟩
          · rw [HPL.out]
          · rw [HPL.out, HPI.out, List.map_append]; exact HO6
        | false =>
          have HE := hide (HU.out (by rw [hsb]; rfl))
          clear HI HU hs
          go_wp2_with (first | (go_at_call 54; refine HPJ.out.mono ?_; rintro e w5 ⟨rfl, hw⟩; subst w5) | (go_at_call 55; refine HAJ.out.mono ?_; rintro e w5 ⟨rfl, hw⟩; subst w5))
          refine ⟨⟨j + 1, cp, ad, by go_num, by omega, ?_, ?_, hB⟩, by simp [intOf]; omega⟩
          · rw [HE.out]
          · rw [HE.out]; exact hO
      · have hsb : (sz == (b : Int)) = false := by simp [hs]
        have HE := hide (HU.out (by rw [hsb]; rfl))
        clear HI HU hs HAJ
        go_wp2_with (go_at_call 54; refine HPJ.out.mono ?_; rintro e w5 ⟨rfl, hw⟩; subst w5)
        refine ⟨⟨j + 1, cp, ad, by go_num, by omega, ?_, ?_, hB⟩, by simp [intOf]; omega⟩
        · rw [HE.out]
        · rw [HE.out]; exact hO
    · have hje : j = 64 := by omega
      subst hje
      go_wp2_with fail
      go_ret
      exact ⟨ad, cp, rfl, Rd.of_own hO.out, hB.out⟩

set_option maxRecDepth 100000 in
theorem InCheckR_any (a : Option Addr) (c : Nat) (Z : List Int) (s k : Nat) (hs : s ≤ 1) (hk : Fst Z (pc s 6) k) (hz : Pz Z) (w : World) (h : Rd w a 64 c Z) :
    Calls Tryd.prog 26 #[.slice a 64 c, .int .i64 s] w fun e w' => e = .returned (.bool (decide (atL Z k (1 - s) ≠ []))) ∧ Below w.heap.size w w' := by
  have HAT := hide (at_king a c Z (pc s 6) k hk w h)
  have HAO := hide (AttackersOf_any a c Z k (1 - s) hk.1 hz w h)
  have hln := atL_len0 Z k (1 - s)
  have hp : pc s 6 = if s = 0 then 6 else -6 := rfl
  have HD : Hid (decide (atL Z k (1 - s) ≠ []) = decide (0 < (atL Z k (1 - s)).length)) := hide (by
    rw [decide_eq_decide]; exact ⟨fun h => List.length_pos_iff.2 h, fun h => List.length_pos_iff.1 h⟩)
  rw [HD.out]
  generalize (atL Z k (1 - s)).length = M at *
  clear h hz hk HD
  have hs2 : s = 0 ∨ s = 1 := by omega
  rcases hs2 with rfl | rfl
  · rw [hp] at HAT
    clear hp
    go_enter Tryd.func26, Tryd.ntmps26
    go_wp2_with (go_at_call 53; refine HAT.out.mono ?_; rintro e w5 ⟨rfl, hw⟩; subst w5)
    refine HAO.out.mono ?_
    rintro e w5 ⟨a', c', rfl, -, hb⟩
    have HB := hide hb
    clear hb
    go_wp2_with fail
    go_ret
    exact ⟨by simp, HB.out⟩
  · rw [hp] at HAT
    clear hp
    go_enter Tryd.func26, Tryd.ntmps26
    go_wp2_with (go_at_call 53; refine HAT.out.mono ?_; rintro e w5 ⟨rfl, hw⟩; subst w5)
    refine HAO.out.mono ?_
    rintro e w5 ⟨a', c', rfl, -, hb⟩
    have HB := hide hb
    clear hb
    go_wp2_with fail
    go_ret
    exact ⟨by simp, HB.out⟩

end Go.Proofs.YtdmlamnonbmboaaDoor

namespace Go.Proofs.YtdmlamnonbmboaaDoor
open Go.RowKit

/-- Whether something is so. -/
noncomputable def dB (p : Prop) : Bool := @decide p (Classical.propDecidable _)
theorem dB_t {p : Prop} (h : p) : dB p = true := @decide_eq_true p (Classical.propDecidable _) h
theorem dB_f {p : Prop} (h : ¬ p) : dB p = false := @decide_eq_false p (Classical.propDecidable _) h
theorem dB_iff {p : Prop} : dB p = true ↔ p := @decide_eq_true_iff p (Classical.propDecidable _)

/-- How often a number stands on the first places. -/
def cnt (Z : List Int) (x : Int) (n : Nat) : Nat := ((List.range n).filter fun i => zg Z i == x).length
theorem cnt_zero (Z : List Int) (x : Int) : cnt Z x 0 = 0 := rfl
theorem cnt_succ (Z : List Int) (x : Int) (n : Nat) : cnt Z x (n + 1) = cnt Z x n + (if zg Z n = x then 1 else 0) := by
  unfold cnt
  rw [List.range_succ, List.filter_append, List.length_append]
  by_cases h : zg Z n = x <;> simp [h]
theorem cnt_le (Z : List Int) (x : Int) (n : Nat) : cnt Z x n ≤ n := Nat.le_trans (List.length_filter_le _ _) (by simp)

/-- A place as it may be. -/
def okS (Z : List Int) (i : Nat) : Prop := -6 ≤ zg Z i ∧ zg Z i ≤ 6 ∧ ((zg Z i).natAbs = 1 → 8 ≤ i ∧ i < 56)

/-- Pieces as they may stand. -/
def Std (Z : List Int) : Prop := Z.length = 64 ∧ (∀ i, i < 64 → okS Z i) ∧ cnt Z 6 64 = 1 ∧ cnt Z (-6) 64 = 1

theorem Std.pz {Z : List Int} (h : Std Z) : Pz Z := by
  refine ⟨h.1, fun q => ?_⟩
  by_cases hq : q < 64
  · exact ⟨(h.2.1 q hq).1, (h.2.1 q hq).2.1⟩
  · have : zg Z q = 0 := by unfold zg; rw [List.getD_eq_getElem?_getD, List.getElem?_eq_none (by have := h.1; omega)]; rfl
    omega

theorem fst_ex (Z : List Int) (x : Int) : ∀ n, (∃ j, j < n ∧ zg Z j = x) → ∃ k, k < n ∧ zg Z k = x ∧ ∀ j, j < k → zg Z j ≠ x := by
  intro n
  induction n with
  | zero => rintro ⟨j, hj, _⟩; omega
  | succ n ih =>
    intro hex
    by_cases hn : ∃ j, j < n ∧ zg Z j = x
    · obtain ⟨k, h1, h2⟩ := ih hn
      exact ⟨k, by omega, h2⟩
    · obtain ⟨j, hj, hz⟩ := hex
      refine ⟨j, hj, hz, fun i hi e => hn ⟨i, by omega, e⟩⟩

/-- The place of a number. -/
noncomputable def kg (Z : List Int) (x : Int) : Nat := @dite Nat (∃ k, Fst Z x k) (Classical.propDecidable _) (fun h => Classical.choose h) (fun _ => 0)

theorem kg_fst {Z : List Int} {x : Int} (h : cnt Z x 64 = 1) : Fst Z x (kg Z x) := by
  have hex : ∃ j, j < 64 ∧ zg Z j = x := by
    unfold cnt at h
    have : 0 < ((List.range 64).filter fun i => zg Z i == x).length := by omega
    obtain ⟨j, hj⟩ := List.exists_mem_of_length_pos this
    rw [List.mem_filter, List.mem_range] at hj
    exact ⟨j, hj.1, by simpa using hj.2⟩
  have h2 : ∃ k, Fst Z x k := fst_ex Z x 64 hex
  unfold kg
  rw [dif_pos h2]
  exact Classical.choose_spec h2

theorem pc6 (s : Nat) : pc s 6 = if s = 0 then 6 else -6 := rfl

theorem Std.king {Z : List Int} (h : Std Z) (s : Nat) : Fst Z (pc s 6) (kg Z (pc s 6)) := by
  rw [pc6]
  by_cases hs : s = 0
  · rw [if_pos hs]; exact kg_fst h.2.2.1
  · rw [if_neg hs]; exact kg_fst h.2.2.2

/-- Is a side's king attacked? -/
noncomputable def chk (Z : List Int) (s : Nat) : Bool := decide (atL Z (kg Z (pc s 6)) (1 - s) ≠ [])

theorem chk_atk {Z : List Int} (h : Std Z) {s : Nat} (hs : s ≤ 1) : decide (atk Z (kg Z (pc s 6)) (1 - s) ≠ []) = chk Z s := by
  unfold chk
  have hl := atk_len h.pz (b := 1 - s) (h.king s).1 (by omega)
  rw [decide_eq_decide]
  refine ⟨fun h1 h2 => h1 ?_, fun h1 h2 => h1 ?_⟩
  · rw [h2] at hl; exact List.eq_nil_of_length_eq_zero hl
  · rw [h2] at hl; exact List.eq_nil_of_length_eq_zero hl.symm

theorem inCheck_std (a : Option Addr) (c : Nat) (Z : List Int) (s : Nat) (hs : s ≤ 1) (hS : Std Z) (w : World) (hz : Rd w a 64 c Z) (hT : TabS w) :
    Calls Tryd.prog 43 #[.slice a 64 c, .int .i64 s] w fun e w' => e = .returned (.bool (chk Z s)) ∧ Below w.heap.size w w' := by
  rw [← chk_atk hS hs]
  exact inCheck_any a c Z s _ hs (hS.king s) w hz hT

theorem InCheck_std (a : Option Addr) (c : Nat) (Z : List Int) (s : Nat) (hs : s ≤ 1) (hS : Std Z) (w : World) (hz : Rd w a 64 c Z) :
    Calls Tryd.prog 26 #[.slice a 64 c, .int .i64 s] w fun e w' => e = .returned (.bool (chk Z s)) ∧ Below w.heap.size w w' :=
  InCheckR_any a c Z s _ hs (hS.king s) hS.pz w hz

/-- A right to castle. -/
def bitB (k : Int) (i : Nat) : Bool := decide (k.toNat / 2 ^ i % 2 = 1)

/-- Kings and rooks where the rights need them. -/
def kgP (i : Nat) : Nat := if i < 2 then 4 else 60
def rkP (i : Nat) : Nat := if i = 0 then 7 else if i = 1 then 0 else if i = 2 then 63 else 56
def sdP (i : Nat) : Nat := if i < 2 then 0 else 1
def cas1 (Z : List Int) (k : Int) (i : Nat) : Prop := bitB k i = true → zg Z (kgP i) = pc (sdP i) 6 ∧ zg Z (rkP i) = pc (sdP i) 4
def Cas (Z : List Int) (k : Int) : Prop := 0 ≤ k ∧ k ≤ 15 ∧ ∀ i, i < 4 → cas1 Z k i

/-- A place that a pawn may just have gone over. -/
def Pas (Z : List Int) (t e : Int) : Prop := e = -1 ∨ (t = 0 ∧ 40 ≤ e ∧ e ≤ 47 ∧ zg Z e.toNat = 0 ∧ zg Z (e.toNat - 8) = -1 ∧ zg Z (e.toNat + 8) = 0) ∨ (t = 1 ∧ 16 ≤ e ∧ e ≤ 23 ∧ zg Z e.toNat = 0 ∧ zg Z (e.toNat + 8) = 1 ∧ zg Z (e.toNat - 8) = 0)

/-- A position that may be. -/
def MayC (Z : List Int) (t k e h f : Int) : Prop := Std Z ∧ (t = 0 ∨ t = 1) ∧ Cas Z k ∧ Pas Z t e ∧ 0 ≤ h ∧ h ≤ 999 ∧ 1 ≤ f ∧ f ≤ 999 ∧ chk Z (1 - t).toNat = false

end Go.Proofs.YtdmlamnonbmboaaDoor
