/-
  Chess: is a place attacked, is a king: walked. No conditions beyond those that each theorem bears.
  Chess: the attackers of a place, found and told, are as many. No conditions beyond those that each theorem bears.
  Chess: the document's attackers, and whether a king is attacked, walked. No conditions beyond those that each theorem bears.
  Chess: which positions may be, said. No conditions beyond those that each theorem bears.
-/
import Derived.Test.YtdmlamnonbmboaaGreatDoorV14
import Derived.Test.YtdmlamnonbmboaaGreatDoorV11
namespace Go.Proofs.YtdmlamnonbmboaaGreatDoor
open Go.RowKit Go.Shelf

/-- A block of values. -/
def Vb (w : World) (b t : Nat) (L : List Value) : Prop := w.heap[b]? = some (.cells L.toArray t (0, 0))

section
variable {w w' : World} {b t : Nat} {L : List Value}
theorem Vb.cell (h : Vb w b t L) {i : Nat} {v : Value} (hv : L[i]? = some v) : w.cell? ⟨b, i, none⟩ = some v := by
  have h' : w.heap[b]? = _ := h
  simp [World.cell?, h', hv]
theorem Vb.frozen (h : Vb w b t L) (i : Nat) : w.frozen? ⟨b, i, none⟩ = false := by
  have h' : w.heap[b]? = _ := h
  simp [World.frozen?, h']
theorem Vb.set (h : Vb w b t L) (i : Nat) (x : Value) : Vb (w.setCell ⟨b, i, none⟩ x) b t (L.set i x) := by
  have h' : w.heap[b]? = _ := h
  simp [Vb, World.setCell, Array.getElem?_modify, h']
theorem Vb.lt (h : Vb w b t L) : b < w.heap.size := (Array.getElem?_eq_some_iff.1 h).1
theorem Vb.keeps {X : Nat → Prop} (h : Vb w b t L) (hk : Keeps X w w') (hb : ¬ X b) : Vb w' b t L := (hk.block b h.lt hb).trans h
theorem Vb.below {B : Nat} (h : Vb w b t L) (hk : Below B w w') (hb : b < B) : Vb w' b t L := (hk.block b hb).trans h
theorem Vb.mono (h : Vb w b t L) (hk : Below w.heap.size w w') : Vb w' b t L := h.below hk h.lt
end
theorem Vb.new (w : World) (t : Nat) (L : List Value) : Vb (w.alloc (.cells L.toArray t)) w.heap.size t L := heap_alloc_new w _

theorem results_b1 {fn : Func} {t : Tmp} (h : fn.results = #[.cell t 4]) (tmps : Array Value) (w : World) (b : Nat) (hb : tmps.getD t undef = .pointer (some ⟨b, 0, none⟩)) {v : Bool} (hv : w.cell? ⟨b, 0, none⟩ = some (.bool v)) :
    (results fn tmps).run Tryz.prog w = .ok (.bool v) w := by
  have hb' : tmps[t]?.getD undef = .pointer (some ⟨b, 0, none⟩) := by simpa using hb
  simp [results, h, hb', asAddr, loadVar, hv, go_sem]

/-- What is held while attackers are looked for: g: the answer. -/
structure IcI (g : Nat) (w : World) (O : Nat → Prop) (s : List Nat) (V : World) : Prop where
  o : ∀ j, O j ↔ j = g
  a : Vb V g 4 [.bool false]
  no : s = []
  bl : Below w.heap.size w V

attribute [local irreducible] atk pc
attribute [local go_sem] Oper.semAt_some wide_fn wide_fn0 wide_depth

set_option maxRecDepth 100000 in
set_option maxHeartbeats 8000000 in
theorem attacked_any (a : Option Addr) (c : Nat) (Z : List Int) (k os : Nat) (hk64 : k < 64) (w : World) (hz : Rd w a 64 c Z) (hT : TabS w) :
    Calls Tryz.prog 78 #[.slice a 64 c, .int .i64 k, .int .i64 os] w fun e w' => e = .returned (.bool (decide (atk Z k os ≠ []))) ∧ Below w.heap.size w w' := by
  have HSQ := hide (fun bb ab eb lb => attackers2_seq bb ab eb lb os k a c Z hk64)
  have HZW := hide hz
  have HTW := hide hT
  have HZB : Hid (∀ b off, a = some ⟨b, off, none⟩ → b < w.heap.size) := hide (fun b off e => by subst e; exact hz.blt (by omega))
  obtain ⟨XS, hXS⟩ : ∃ XS, atk Z k os = XS := ⟨_, rfl⟩
  rw [hXS] at HSQ ⊢
  have HATK := hide (fun w => attackers_any a c k os w)
  have HAKN := hide (fun w (hz : Rd w a 64 c Z) (hT : TabS w) => AkR.new k os hz hT)
  clear hz hT hXS
  obtain ⟨w1, hw1⟩ : ∃ w1, w.alloc (.cells #[.bool false] 4) = w1 := ⟨_, rfl⟩
  have B1 : Below w.heap.size w w1 := by rw [← hw1]; exact (Below.refl _ w).alloc (Nat.le_refl _) _
  have s1 : w1.heap.size = w.heap.size + 1 := by rw [← hw1]; simp
  have V1 : Vb w1 w.heap.size 4 [.bool false] := by rw [← hw1]; exact Vb.new w 4 [.bool false]
  have HB1 := hide B1
  have HS1 := hide s1
  have HV1 := hide V1
  have HZ1 := hide (HZW.out.mono B1)
  have HT1 := hide (HTW.out.mono B1)
  have HT2 := hide HTW.out.lt
  clear B1 s1 V1 HZW HTW
  refine (callsIn_wide (n := 3)).1 ?_
  refine callsIn_of_wp_marks Tryz.func78 rfl trivial ?_ rfl
  simp only [Tryz.ntmps78, List.size_toArray, List.length_cons, List.length_nil, Nat.reduceAdd, Nat.reduceSub, Array.replicate_succ, Array.replicate_zero, List.push_toArray, List.append_toArray, List.nil_append, List.cons_append]
  refine wpIn_wide.2 ?_
  go_upto_region 1 with fail
  clear hw1
  go_wp2_with fail
  refine (HATK.out _).mono ?_
  rintro e w5 ⟨rfl, hw5⟩
  have B5 : Below w1.heap.size w1 w5 := by
    rw [hw5]; exact ((((Below.refl w1.heap.size w1).alloc (Nat.le_refl _) _).alloc (by simp) _).alloc (by simp; omega) _).alloc (by simp; omega) _
  have s5 : w5.heap.size = w1.heap.size + 4 := by rw [hw5]; simp
  have R5 := HAKN.out w1 HZ1.out HT1.out
  rw [← hw5] at R5
  have HR5 := hide R5
  have HS5 := hide s5
  have HI5 : Hid (IcI w.heap.size w (fun j => j = w.heap.size) [] w5) := hide ⟨fun j => Iff.rfl, HV1.out.mono B5, rfl, HB1.out.trans (B5.mono HB1.out.size)⟩
  clear hw5 B5 s5 R5
  go_wp2_with fail
  have HLT : Hid (∀ j, AkT (w1.heap.size + 2) (w1.heap.size + 1) (w1.heap.size + 3) w1.heap.size a j → j < w5.heap.size ∧ j ≠ w.heap.size) := hide (by
    have z1 := HS1.out
    have z2 := HS5.out
    have z3 := HT2.out
    rintro j (h | h | h | h | h | ⟨off, h⟩)
    · omega
    · omega
    · omega
    · omega
    · omega
    · have := HZB.out _ _ h; omega)
  refine (wpIn_wide (n := 1)).1 (wp_range_o (gf := 137) (lb := #[.pointer (some ⟨w1.heap.size + 2, 0, none⟩), .pointer (some ⟨w1.heap.size + 1, 0, none⟩), .pointer (some ⟨w1.heap.size + 3, 0, none⟩), .pointer (some ⟨w1.heap.size, 0, none⟩)]) (G := RcG) (xs := XS) (R := AkR (w1.heap.size + 2) (w1.heap.size + 1) (w1.heap.size + 3) w1.heap.size os k a c Z) (T := AkT (w1.heap.size + 2) (w1.heap.size + 1) (w1.heap.size + 3) w1.heap.size a) (by simp [Act.eval]) (enters_of Tryz.func137 (by kernel_rfl) rfl)
    (HSQ.out (w1.heap.size + 2) (w1.heap.size + 1) (w1.heap.size + 3) w1.heap.size) (fun j hj => (HLT.out j hj).1) (fun A hA => HR5.out.keeps (X := fun _ => False) (Keeps.of_all hA) (fun _ _ h => h)) (fun x args W' hG => by rw [hG]; rfl)
    (fun O s W' => IcI w.heap.size w O s W') (fun d O W' => d = .ret ∧ (∀ j, O j ↔ j = w.heap.size) ∧ Vb W' w.heap.size 4 [.bool true] ∧ XS ≠ [] ∧ Below w.heap.size w W') (fun j => j = w.heap.size) ?hC HI5.out ?round ?done ?stop)
  case hC =>
    intro d
    have z1 := HS1.out
    have z2 := HS5.out
    refine ⟨?_, ?_, ?_, ?_⟩
    · rintro O s A h j hj
      obtain rfl := (h.o j).1 hj
      exact ⟨h.a.lt, fun e => (HLT.out _ e).2 rfl⟩
    · rintro O A ⟨_, h1, h2, _, _⟩ j hj
      obtain rfl := (h1 j).1 hj
      exact ⟨h2.lt, fun e => (HLT.out _ e).2 rfl⟩
    · rintro O s A B h hk
      exact ⟨h.o, h.a.keeps hk (fun e => by omega), h.no, h.bl.trans (hk.below h.bl.size (fun j hj e => by omega))⟩
    · rintro O A B ⟨h0, h1, h2, h3, h4⟩ hk
      exact ⟨h0, h1, h2.keeps hk (fun e => by omega), h3, h4.trans (hk.below h4.size (fun j hj e => by omega))⟩
  case round =>
    rintro l2 O s y args W6 hl2 ⟨rec, hrec⟩ hI6 hOl _ _ hpre hGx hsz6
    obtain rfl : args = #[.int .i64 (y : Nat)] := hGx
    have HXN : Hid (XS ≠ []) := hide (fun e => by rw [e] at hpre; have := hpre.length_le; simp at this)
    have HI6 := hide hI6
    have HSZ6 := hide hsz6
    clear hI6 hpre hrec hOl hsz6
    gi_wp2
    refine ⟨Below.refl _ _, ?_⟩
    intro W7 hk7
    have z1 := HS1.out
    have z2 := HS5.out
    have z3 := HSZ6.out
    have I7 : IcI w.heap.size w O s W7 := ⟨HI6.out.o, HI6.out.a.keeps hk7 (fun e => by omega), HI6.out.no, HI6.out.bl.trans (hk7.below HI6.out.bl.size (fun j hj e => by omega))⟩
    have HI7 := hide I7
    have ca := I7.a.cell (i := 0) rfl
    have fa := I7.a.frozen 0
    have HV9 : Hid (Vb (W7.setCell ⟨w.heap.size, 0, none⟩ (.bool true)) w.heap.size 4 [.bool true]) := hide (I7.a.set 0 (.bool true))
    have kk : Keeps (fun j => j = w.heap.size) W7 (W7.setCell ⟨w.heap.size, 0, none⟩ (.bool true)) := Keeps.set1 _ _ _ _
    have HK9 : Hid (Keeps O W7 (W7.setCell ⟨w.heap.size, 0, none⟩ (.bool true))) := hide (kk.mono (fun j _ e => (HI7.out.o j).2 e))
    have HB9 : Hid (Below w.heap.size w (W7.setCell ⟨w.heap.size, 0, none⟩ (.bool true))) := hide (I7.bl.trans (kk.below I7.bl.size (fun j hj e => by omega)))
    clear HI6 hk7 z1 z2 z3 I7 kk
    gi_wp2
    exact ⟨HK9.out, O, fun _ _ h => h, rfl, HI7.out.o, HV9.out, HXN.out, HB9.out⟩
  case done =>
    rintro D O W6 hD hI6 hk6 hm6 hKD
    have z1 := HS1.out
    have z2 := HS5.out
    have ca := hI6.a.cell (i := 0) rfl
    have fa := hI6.a.frozen 0
    have HD : Hid (decide (XS ≠ []) = false) := hide (decide_eq_false (fun h => h hI6.no))
    have HV9 : Hid (Vb (W6.setCell ⟨w.heap.size, 0, none⟩ (.bool false)) w.heap.size 4 [.bool false]) := hide (hI6.a.set 0 (.bool false))
    have kk : Keeps (fun j => j = w.heap.size) W6 (W6.setCell ⟨w.heap.size, 0, none⟩ (.bool false)) := Keeps.set1 _ _ _ _
    have HB9 : Hid (Below w.heap.size w (W6.setCell ⟨w.heap.size, 0, none⟩ (.bool false))) := hide (hI6.bl.trans (kk.below hI6.bl.size (fun j hj e => by omega)))
    have HMK : Hid (Mks (fun _ => False) (w.heap.size + 1) (W6.setCell ⟨w.heap.size, 0, none⟩ (.bool false)) [{ target := .collected D, args := #[] }]) := hide ⟨[D], rfl, by simp, fun E hE => by rw [List.mem_singleton.1 hE]; exact ⟨(kk.block D (Array.getElem?_eq_some_iff.1 hKD).1 (fun e => by omega)).trans hKD, by omega, fun h => h⟩⟩
    clear hI6 hk6 hm6 hKD hD z1 z2 kk
    go_wp2_with fail
    refine leaves_mks HMK.out (fun w9 hk9 => ?_)
    exact ⟨_, results_b1 rfl _ _ w.heap.size rfl ((HV9.out.keeps hk9 (fun e => by have := e.1; omega)).cell (i := 0) rfl), by rw [HD.out], HB9.out.trans (hk9.below HB9.out.size (fun q hq e => by have := e.1; omega))⟩
  case stop =>
    rintro d D O W6 hD ⟨rfl, h1, h2, h3, h4⟩ hk6 hm6 hKD
    have z1 := HS1.out
    have z2 := HS5.out
    have HD : Hid (decide (XS ≠ []) = true) := hide (decide_eq_true h3)
    have HV9 := hide h2
    have HB9 := hide h4
    have HMK : Hid (Mks (fun _ => False) (w.heap.size + 1) W6 [{ target := .collected D, args := #[] }]) := hide ⟨[D], rfl, by simp, fun E hE => by rw [List.mem_singleton.1 hE]; exact ⟨hKD, by omega, fun h => h⟩⟩
    clear hk6 hm6 hKD hD z1 z2 h1 h2 h3 h4
    refine wpIn_wide.2 ?_
    go_wp2
    refine leaves_mks HMK.out (fun w9 hk9 => ?_)
    exact ⟨_, results_b1 rfl _ _ w.heap.size rfl ((HV9.out.keeps hk9 (fun e => by have := e.1; omega)).cell (i := 0) rfl), by rw [HD.out], HB9.out.trans (hk9.below HB9.out.size (fun q hq e => by have := e.1; omega))⟩

theorem inCheck_any (a : Option Addr) (c : Nat) (Z : List Int) (s k : Nat) (hs : s ≤ 1) (hk : Fst Z (pc s 6) k) (w : World) (hz : Rd w a 64 c Z) (hT : TabS w) :
    Calls Tryz.prog 42 #[.slice a 64 c, .int .i64 s] w fun e w' => e = .returned (.bool (decide (atk Z k (1 - s) ≠ []))) ∧ Below w.heap.size w w' := by
  have HPC := hide (pieceOf_any s 6 (by omega))
  have HIX := hide (index_king a c Z (pc s 6) k hk w hz)
  have HOT := hide (other_any s hs)
  have HAT := hide (attacked_any a c Z k (1 - s) hk.1 w hz hT)
  generalize decide (atk Z k (1 - s) ≠ []) = r at *
  obtain ⟨os, hos⟩ : ∃ os, 1 - s = os := ⟨_, rfl⟩
  rw [hos] at HOT HAT
  obtain ⟨P, hP⟩ : ∃ P, pc s 6 = P := ⟨_, rfl⟩
  rw [hP] at HPC HIX
  clear hz hT hk hs hos hP
  go_enter Tryz.func42, Tryz.ntmps42
  go_upto_region 2 with (first | (go_at_call 47; refine (HPC.out _).mono ?_; rintro e w5 ⟨rfl, hw⟩; subst w5) | (go_at_call 77; refine HIX.out.mono ?_; rintro e w5 ⟨rfl, hw⟩; subst w5))
  go_wp2_with (go_at_call 43; refine (HOT.out _).mono ?_; rintro e w5 ⟨rfl, hw⟩; subst w5)
  refine HAT.out.mono ?_
  rintro e w5 ⟨rfl, hb⟩
  have HB := hide hb
  clear hb
  go_wp2_with fail
  go_ret
  exact ⟨rfl, HB.out⟩

end Go.Proofs.YtdmlamnonbmboaaGreatDoor

namespace Go.Proofs.YtdmlamnonbmboaaGreatDoor
open Go.RowKit Go.Shelf

theorem atL_lt (Z : List Int) (t b : Nat) : (atL Z t b).Pairwise (· < ·) := List.Pairwise.sublist List.filter_sublist List.pairwise_lt_range
theorem atL_nodup (Z : List Int) (t b : Nat) : (atL Z t b).Nodup := (atL_lt Z t b).imp (fun h => by omega)
theorem atL_len (Z : List Int) (t b : Nat) : (atL Z t b).length ≤ 64 := by
  unfold atL
  exact Nat.le_trans (List.length_filter_le _ _) (by simp)
theorem atk_perm {Z : List Int} (hz : Pz Z) {t b : Nat} (ht : t < 64) (hb : b = 0 ∨ b = 1) : (atk Z t b).Perm (atL Z t b) :=
  (List.perm_ext_iff_of_nodup (atk_nodup Z b ht) (atL_nodup Z t b)).2 (mem_atk hz ht hb)
theorem atk_len {Z : List Int} (hz : Pz Z) {t b : Nat} (ht : t < 64) (hb : b = 0 ∨ b = 1) : (atk Z t b).length = (atL Z t b).length := (atk_perm hz ht hb).length_eq

end Go.Proofs.YtdmlamnonbmboaaGreatDoor

namespace Go.Proofs.YtdmlamnonbmboaaGreatDoor
open Go.RowKit Go.Shelf

def atP (Z : List Int) (t b n : Nat) : List Nat := (List.range n).filter fun i => sd (zg Z i) == (b : Int) && atR Z i t
theorem atP_all (Z : List Int) (t b : Nat) : atP Z t b 64 = atL Z t b := rfl
theorem atP_zero (Z : List Int) (t b : Nat) : atP Z t b 0 = [] := rfl
theorem atP_in {Z : List Int} {t b j : Nat} (h : (sd (zg Z j) == (b : Int) && atR Z j t) = true) : atP Z t b (j + 1) = atP Z t b j ++ [j] := by
  unfold atP; rw [List.range_succ, List.filter_append]; simp only [List.filter_cons, List.filter_nil, h, if_true]
theorem atP_out {Z : List Int} {t b j : Nat} (h : (sd (zg Z j) == (b : Int) && atR Z j t) = false) : atP Z t b (j + 1) = atP Z t b j := by
  unfold atP; rw [List.range_succ, List.filter_append]; simp only [List.filter_cons, List.filter_nil, h]; simp
theorem atP_len (Z : List Int) (t b j : Nat) : (atP Z t b j).length ≤ j := Nat.le_trans (List.length_filter_le _ _) (by simp)

theorem atL_len0 (Z : List Int) (t b : Nat) : (atL Z t b).length ≤ 64 := by
  unfold atL
  exact Nat.le_trans (List.length_filter_le _ _) (by simp)

attribute [local irreducible] atP atR sd

end Go.Proofs.YtdmlamnonbmboaaGreatDoor

namespace Go.Proofs.YtdmlamnonbmboaaGreatDoor
open Go.RowKit

/-- Whether something is so. -/
noncomputable def dB (p : Prop) : Bool := @decide p (Classical.propDecidable _)
theorem dB_t {p : Prop} (h : p) : dB p = true := @decide_eq_true p (Classical.propDecidable _) h
theorem dB_f {p : Prop} (h : ¬ p) : dB p = false := @decide_eq_false p (Classical.propDecidable _) h
theorem dB_iff {p : Prop} : dB p = true ↔ p := @decide_eq_true_iff p (Classical.propDecidable _)

/-- How often a number stands on the first places. -/
def cnt (Z : List Int) (x : Int) (n : Nat) : Nat := ((List.range n).filter fun i => zg Z i == x).length
theorem cnt_zero (Z : List Int) (x : Int) : cnt Z x 0 = 0 := rfl
theorem cnt_succ (Z : List Int) (x : Int) (n : Nat) : cnt Z x (n + 1) = cnt Z x n + (if zg Z n = x then 1 else 0) := by
  unfold cnt
  rw [List.range_succ, List.filter_append, List.length_append]
  by_cases h : zg Z n = x <;> simp [h]
theorem cnt_le (Z : List Int) (x : Int) (n : Nat) : cnt Z x n ≤ n := Nat.le_trans (List.length_filter_le _ _) (by simp)

/-- A place as it may be. -/
def okS (Z : List Int) (i : Nat) : Prop := -6 ≤ zg Z i ∧ zg Z i ≤ 6 ∧ ((zg Z i).natAbs = 1 → 8 ≤ i ∧ i < 56)

/-- Pieces as they may stand. -/
def Std (Z : List Int) : Prop := Z.length = 64 ∧ (∀ i, i < 64 → okS Z i) ∧ cnt Z 6 64 = 1 ∧ cnt Z (-6) 64 = 1

theorem Std.pz {Z : List Int} (h : Std Z) : Pz Z := by
  refine ⟨h.1, fun q => ?_⟩
  by_cases hq : q < 64
  · exact ⟨(h.2.1 q hq).1, (h.2.1 q hq).2.1⟩
  · have : zg Z q = 0 := by unfold zg; rw [List.getD_eq_getElem?_getD, List.getElem?_eq_none (by have := h.1; omega)]; rfl
    omega

theorem fst_ex (Z : List Int) (x : Int) : ∀ n, (∃ j, j < n ∧ zg Z j = x) → ∃ k, k < n ∧ zg Z k = x ∧ ∀ j, j < k → zg Z j ≠ x := by
  intro n
  induction n with
  | zero => rintro ⟨j, hj, _⟩; omega
  | succ n ih =>
    intro hex
    by_cases hn : ∃ j, j < n ∧ zg Z j = x
    · obtain ⟨k, h1, h2⟩ := ih hn
      exact ⟨k, by omega, h2⟩
    · obtain ⟨j, hj, hz⟩ := hex
      refine ⟨j, hj, hz, fun i hi e => hn ⟨i, by omega, e⟩⟩

/-- The place of a number. -/
noncomputable def kg (Z : List Int) (x : Int) : Nat := @dite Nat (∃ k, Fst Z x k) (Classical.propDecidable _) (fun h => Classical.choose h) (fun _ => 0)

theorem kg_fst {Z : List Int} {x : Int} (h : cnt Z x 64 = 1) : Fst Z x (kg Z x) := by
  have hex : ∃ j, j < 64 ∧ zg Z j = x := by
    unfold cnt at h
    have : 0 < ((List.range 64).filter fun i => zg Z i == x).length := by omega
    obtain ⟨j, hj⟩ := List.exists_mem_of_length_pos this
    rw [List.mem_filter, List.mem_range] at hj
    exact ⟨j, hj.1, by simpa using hj.2⟩
  have h2 : ∃ k, Fst Z x k := fst_ex Z x 64 hex
  unfold kg
  rw [dif_pos h2]
  exact Classical.choose_spec h2

theorem pc6 (s : Nat) : pc s 6 = if s = 0 then 6 else -6 := rfl

theorem Std.king {Z : List Int} (h : Std Z) (s : Nat) : Fst Z (pc s 6) (kg Z (pc s 6)) := by
  rw [pc6]
  by_cases hs : s = 0
  · rw [if_pos hs]; exact kg_fst h.2.2.1
  · rw [if_neg hs]; exact kg_fst h.2.2.2

/-- Is a side's king attacked? -/
noncomputable def chk (Z : List Int) (s : Nat) : Bool := decide (atL Z (kg Z (pc s 6)) (1 - s) ≠ [])

theorem chk_atk {Z : List Int} (h : Std Z) {s : Nat} (hs : s ≤ 1) : decide (atk Z (kg Z (pc s 6)) (1 - s) ≠ []) = chk Z s := by
  unfold chk
  have hl := atk_len h.pz (b := 1 - s) (h.king s).1 (by omega)
  rw [decide_eq_decide]
  refine ⟨fun h1 h2 => h1 ?_, fun h1 h2 => h1 ?_⟩
  · rw [h2] at hl; exact List.eq_nil_of_length_eq_zero hl
  · rw [h2] at hl; exact List.eq_nil_of_length_eq_zero hl.symm

theorem inCheck_std (a : Option Addr) (c : Nat) (Z : List Int) (s : Nat) (hs : s ≤ 1) (hS : Std Z) (w : World) (hz : Rd w a 64 c Z) (hT : TabS w) :
    Calls Tryz.prog 42 #[.slice a 64 c, .int .i64 s] w fun e w' => e = .returned (.bool (chk Z s)) ∧ Below w.heap.size w w' := by
  rw [← chk_atk hS hs]
  exact inCheck_any a c Z s _ hs (hS.king s) w hz hT

/-- A right to castle. -/
def bitB (k : Int) (i : Nat) : Bool := decide (k.toNat / 2 ^ i % 2 = 1)

/-- Kings and rooks where the rights need them. -/
def kgP (i : Nat) : Nat := if i < 2 then 4 else 60
def rkP (i : Nat) : Nat := if i = 0 then 7 else if i = 1 then 0 else if i = 2 then 63 else 56
def sdP (i : Nat) : Nat := if i < 2 then 0 else 1
def cas1 (Z : List Int) (k : Int) (i : Nat) : Prop := bitB k i = true → zg Z (kgP i) = pc (sdP i) 6 ∧ zg Z (rkP i) = pc (sdP i) 4
def Cas (Z : List Int) (k : Int) : Prop := 0 ≤ k ∧ k ≤ 15 ∧ ∀ i, i < 4 → cas1 Z k i

/-- A place that a pawn may just have gone over. -/
def Pas (Z : List Int) (t e : Int) : Prop := e = -1 ∨ (t = 0 ∧ 40 ≤ e ∧ e ≤ 47 ∧ zg Z e.toNat = 0 ∧ zg Z (e.toNat - 8) = -1 ∧ zg Z (e.toNat + 8) = 0) ∨ (t = 1 ∧ 16 ≤ e ∧ e ≤ 23 ∧ zg Z e.toNat = 0 ∧ zg Z (e.toNat + 8) = 1 ∧ zg Z (e.toNat - 8) = 0)

/-- A position that may be. -/
def MayC (Z : List Int) (t k e h f : Int) : Prop := Std Z ∧ (t = 0 ∨ t = 1) ∧ Cas Z k ∧ Pas Z t e ∧ 0 ≤ h ∧ h ≤ 999 ∧ 1 ≤ f ∧ f ≤ 999 ∧ chk Z (1 - t).toNat = false

end Go.Proofs.YtdmlamnonbmboaaGreatDoor
