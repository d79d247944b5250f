/-
  Chess: where a king stands; small functions of the document. No conditions beyond those that each theorem bears.
  Chess: is a place attacked, is a king: walked. No conditions beyond those that each theorem bears.
  Chess: the attackers of a place, found and told, are as many. No conditions beyond those that each theorem bears.
  Chess: the places between two, one by one. No conditions beyond those that each theorem bears.
-/
import Derived.Test.YtdmlamnonbmboaaDoorQ03
import Derived.Test.YtdmlamnonbmboaaDoorQ07
namespace Go.Proofs.YtdmlamnonbmboaaDoor
open Go.RowKit Go.Shelf

/-- The first place of a number. -/
def Fst (Z : List Int) (x : Int) (k : Nat) : Prop := k < 64 ∧ zg Z k = x ∧ ∀ j, j < k → zg Z j ≠ x

theorem at_king (a : Option Addr) (c : Nat) (Z : List Int) (x : Int) (k : Nat) (hk : Fst Z x k) (w : World) (h : Rd w a 64 c Z) :
    Calls Tryd.prog 53 #[.slice a 64 c, .int .i64 x] w fun e w' => e = .returned (.int .i64 (k : Nat)) ∧ w' = w := by
  have hcm := h.max
  unfold maxLen at hcm
  have hcc := h.cap
  obtain ⟨b, off, rfl, hc⟩ := h.cells (by omega)
  obtain ⟨hk64, hkx, hkn⟩ := hk
  have HC : Hid (∀ i, i < 64 → w.cell? ⟨b, off + i, none⟩ = some (.int .i64 (zg Z i))) := hide hc
  have HKX := hide hkx
  have HKN := hide hkn
  clear h hc hkx hkn
  go_enter Tryd.func53, Tryd.ntmps53
  go_wp2_with fail
  go_loopw [5] (fun v wr => ∃ i : Nat, v = .int .i64 i ∧ i ≤ k ∧ w = wr) (fun v _ => 64 - (intOf v).toNat)
  case atStart => exact ⟨0, rfl, by omega, rfl⟩
  case round =>
    obtain ⟨i, rfl, hi, rfl⟩ := hrel
    have hlt' : (i : Int) < 64 := by omega
    have cx := HC.out i (by omega)
    by_cases e : i = k
    · subst e
      rw [HKX.out] at cx
      go_wp2_with fail
      go_ret
      exact ⟨rfl, rfl⟩
    · have hb : (zg Z i == x) = false := by simpa using HKN.out i (by omega)
      generalize zg Z i = z at *
      go_wp2_with fail
      exact ⟨⟨i + 1, by go_num, by omega, trivial⟩, by simp [intOf]; omega⟩

theorem index_king (a : Option Addr) (c : Nat) (Z : List Int) (x : Int) (k : Nat) (hk : Fst Z x k) (w : World) (h : Rd w a 64 c Z) :
    Calls Tryd.prog 67 #[.slice a 64 c, .int .i64 x] w fun e w' => e = .returned (.int .i64 (k : Nat)) ∧ w' = w := by
  have hcm := h.max
  unfold maxLen at hcm
  have hcc := h.cap
  obtain ⟨b, off, rfl, hc⟩ := h.cells (by omega)
  obtain ⟨hk64, hkx, hkn⟩ := hk
  have HC : Hid (∀ i, i < 64 → w.cell? ⟨b, off + i, none⟩ = some (.int .i64 (zg Z i))) := hide hc
  have HKX := hide hkx
  have HKN := hide hkn
  clear h hc hkx hkn
  go_enter Tryd.func67, Tryd.ntmps67
  go_wp2_with fail
  go_loopw [8] (fun v wr => ∃ i : Nat, v = .int .i64 i ∧ i ≤ k ∧ w = wr) (fun v _ => 64 - (intOf v).toNat)
  case atStart => exact ⟨0, rfl, by omega, rfl⟩
  case round =>
    obtain ⟨i, rfl, hi, rfl⟩ := hrel
    have hlt' : (i : Int) < 64 := by omega
    have cx := HC.out i (by omega)
    by_cases e : i = k
    · subst e
      rw [HKX.out] at cx
      go_wp2_with fail
      go_ret
      exact ⟨rfl, rfl⟩
    · have hb : (x == zg Z i) = false := by simpa using fun h => HKN.out i (by omega) h.symm
      generalize zg Z i = z at *
      go_wp2_with fail
      exact ⟨⟨i + 1, by go_num, by omega, trivial⟩, by simp [intOf]; omega⟩

theorem size_any (x : Int) (h1 : -1000 ≤ x) (h2 : x ≤ 1000) (w : World) : Calls Tryd.prog 25 #[.int .i64 x] w fun e w' => e = .returned (.int .i64 (x.natAbs : Nat)) ∧ w' = w := by
  by_cases h : x < 0
  · have hm : -x = ((x.natAbs : Nat) : Int) := by omega
    rw [← hm]
    clear hm
    go_enter Tryd.func25, Tryd.ntmps25
    go_wp2
    go_ret
    exact ⟨rfl, rfl⟩
  · have hm : x = ((x.natAbs : Nat) : Int) := by omega
    rw [show Calls Tryd.prog 25 #[.int .i64 x] w (fun e w' => e = .returned (.int .i64 (x.natAbs : Nat)) ∧ w' = w) ↔ Calls Tryd.prog 25 #[.int .i64 x] w (fun e w' => e = .returned (.int .i64 x) ∧ w' = w) by rw [← hm]]
    clear hm
    go_enter Tryd.func25, Tryd.ntmps25
    go_wp2
    go_ret
    exact ⟨rfl, rfl⟩

theorem signOf_any (x : Int) (w : World) : Calls Tryd.prog 63 #[.int .i64 x] w fun e w' => e = .returned (.int .i64 (sg x)) ∧ w' = w := by
  unfold sg
  by_cases h : 0 < x
  · rw [if_pos h]
    go_enter Tryd.func63, Tryd.ntmps63
    go_wp2
    go_ret
    exact ⟨rfl, rfl⟩
  · rw [if_neg h]
    by_cases h2 : x < 0
    · rw [if_pos h2]
      go_enter Tryd.func63, Tryd.ntmps63
      go_wp2
      go_ret
      exact ⟨rfl, rfl⟩
    · rw [if_neg h2]
      go_enter Tryd.func63, Tryd.ntmps63
      go_wp2
      go_ret
      exact ⟨rfl, rfl⟩

theorem pieceSide_any (x : Int) (w : World) : Calls Tryd.prog 54 #[.int .i64 x] w fun e w' => e = .returned (.int .i64 (sd x)) ∧ w' = w := by
  unfold sd
  by_cases h : 0 < x
  · rw [if_pos h]
    go_enter Tryd.func54, Tryd.ntmps54
    go_wp2
    go_ret
    exact ⟨rfl, rfl⟩
  · rw [if_neg h]
    by_cases h2 : x < 0
    · rw [if_pos h2]
      go_enter Tryd.func54, Tryd.ntmps54
      go_wp2
      go_ret
      exact ⟨rfl, rfl⟩
    · rw [if_neg h2]
      go_enter Tryd.func54, Tryd.ntmps54
      go_wp2
      go_ret
      exact ⟨rfl, rfl⟩

end Go.Proofs.YtdmlamnonbmboaaDoor

namespace Go.Proofs.YtdmlamnonbmboaaDoor
open Go.RowKit Go.Shelf

/-- A block of values. -/
def Vb (w : World) (b t : Nat) (L : List Value) : Prop := w.heap[b]? = some (.cells L.toArray t (0, 0))

section
variable {w w' : World} {b t : Nat} {L : List Value}
theorem Vb.cell (h : Vb w b t L) {i : Nat} {v : Value} (hv : L[i]? = some v) : w.cell? ⟨b, i, none⟩ = some v := by
  have h' : w.heap[b]? = _ := h
  simp [World.cell?, h', hv]
theorem Vb.frozen (h : Vb w b t L) (i : Nat) : w.frozen? ⟨b, i, none⟩ = false := by
  have h' : w.heap[b]? = _ := h
  simp [World.frozen?, h']
theorem Vb.set (h : Vb w b t L) (i : Nat) (x : Value) : Vb (w.setCell ⟨b, i, none⟩ x) b t (L.set i x) := by
  have h' : w.heap[b]? = _ := h
  simp [Vb, World.setCell, Array.getElem?_modify, h']
theorem Vb.lt (h : Vb w b t L) : b < w.heap.size := (Array.getElem?_eq_some_iff.1 h).1
theorem Vb.keeps {X : Nat → Prop} (h : Vb w b t L) (hk : Keeps X w w') (hb : ¬ X b) : Vb w' b t L := (hk.block b h.lt hb).trans h
theorem Vb.below {B : Nat} (h : Vb w b t L) (hk : Below B w w') (hb : b < B) : Vb w' b t L := (hk.block b hb).trans h
theorem Vb.mono (h : Vb w b t L) (hk : Below w.heap.size w w') : Vb w' b t L := h.below hk h.lt
end
theorem Vb.new (w : World) (t : Nat) (L : List Value) : Vb (w.alloc (.cells L.toArray t)) w.heap.size t L := heap_alloc_new w _

theorem results_b1 {fn : Func} {t : Tmp} (h : fn.results = #[.cell t 4]) (tmps : Array Value) (w : World) (b : Nat) (hb : tmps.getD t undef = .pointer (some ⟨b, 0, none⟩)) {v : Bool} (hv : w.cell? ⟨b, 0, none⟩ = some (.bool v)) :
    (results fn tmps).run Tryd.prog w = .ok (.bool v) w := by
  have hb' : tmps[t]?.getD undef = .pointer (some ⟨b, 0, none⟩) := by simpa using hb
  simp [results, h, hb', asAddr, loadVar, hv, go_sem]

/-- What is held while attackers are looked for: g: the answer. -/
structure IcI (g : Nat) (w : World) (O : Nat → Prop) (s : List Nat) (V : World) : Prop where
  o : ∀ j, O j ↔ j = g
  a : Vb V g 4 [.bool false]
  no : s = []
  bl : Below w.heap.size w V

attribute [local irreducible] atk pc
attribute [local go_sem] Oper.semAt_some wide_fn wide_fn0 wide_depth

set_option maxRecDepth 100000 in
set_option maxHeartbeats 8000000 in
theorem attacked_any (a : Option Addr) (c : Nat) (Z : List Int) (k os : Nat) (hk64 : k < 64) (w : World) (hz : Rd w a 64 c Z) (hT : TabS w) :
    Calls Tryd.prog 68 #[.slice a 64 c, .int .i64 k, .int .i64 os] w fun e w' => e = .returned (.bool (decide (atk Z k os ≠ []))) ∧ Below w.heap.size w w' := by
  have HSQ := hide (fun bb ab eb lb => attackers2_seq bb ab eb lb os k a c Z hk64)
  have HZW := hide hz
  have HTW := hide hT
  have HZB : Hid (∀ b off, a = some ⟨b, off, none⟩ → b < w.heap.size) := hide (fun b off e => by subst e; exact hz.blt (by omega))
  obtain ⟨XS, hXS⟩ : ∃ XS, atk Z k os = XS := ⟨_, rfl⟩
  rw [hXS] at HSQ ⊢
  have HATK := hide (fun w => attackers_any a c k os w)
  have HAKN := hide (fun w (hz : Rd w a 64 c Z) (hT : TabS w) => AkR.new k os hz hT)
  clear hz hT hXS
  obtain ⟨w1, hw1⟩ : ∃ w1, w.alloc (.cells #[.bool false] 4) = w1 := ⟨_, rfl⟩
  have B1 : Below w.heap.size w w1 := by rw [← hw1]; exact (Below.refl _ w).alloc (Nat.le_refl _) _
  have s1 : w1.heap.size = w.heap.size + 1 := by rw [← hw1]; simp
  have V1 : Vb w1 w.heap.size 4 [.bool false] := by rw [← hw1]; exact Vb.new w 4 [.bool false]
  have HB1 := hide B1
  have HS1 := hide s1
  have HV1 := hide V1
  have HZ1 := hide (HZW.out.mono B1)
  have HT1 := hide (HTW.out.mono B1)
  have HT2 := hide HTW.out.lt
  clear B1 s1 V1 HZW HTW
  refine (callsIn_wide (n := 3)).1 ?_
  refine callsIn_of_wp_marks Tryd.func68 rfl trivial ?_ rfl
  simp only [Tryd.ntmps68, List.size_toArray, List.length_cons, List.length_nil, Nat.reduceAdd, Nat.reduceSub, Array.replicate_succ, Array.replicate_zero, List.push_toArray, List.append_toArray, List.nil_append, List.cons_append]
  refine wpIn_wide.2 ?_
  go_upto_region 1 with fail
  clear hw1
  go_wp2_with fail
  refine (HATK.out _).mono ?_
  rintro e w5 ⟨rfl, hw5⟩
  have B5 : Below w1.heap.size w1 w5 := by
    rw [hw5]; exact ((((Below.refl w1.heap.size w1).alloc (Nat.le_refl _) _).alloc (by simp) _).alloc (by simp; omega) _).alloc (by simp; omega) _
  have s5 : w5.heap.size = w1.heap.size + 4 := by rw [hw5]; simp
  have R5 := HAKN.out w1 HZ1.out HT1.out
  rw [← hw5] at R5
  have HR5 := hide R5
  have HS5 := hide s5
  have HI5 : Hid (IcI w.heap.size w (fun j => j = w.heap.size) [] w5) := hide ⟨fun j => Iff.rfl, HV1.out.mono B5, rfl, HB1.out.trans (B5.mono HB1.out.size)⟩
  clear hw5 B5 s5 R5
  go_wp2_with fail
  have HLT : Hid (∀ j, AkT (w1.heap.size + 2) (w1.heap.size + 1) (w1.heap.size + 3) w1.heap.size a j → j < w5.heap.size ∧ j ≠ w.heap.size) := hide (by
    have z1 := HS1.out
    have z2 := HS5.out
    have z3 := HT2.out
    rintro j (h | h | h | h | h | ⟨off, h⟩)
    · omega
    · omega
    · omega
    · omega
    · omega
    · have := HZB.out _ _ h; omega)
  refine (wpIn_wide (n := 1)).1 (wp_range_o (gf := 99) (lb := #[.pointer (some ⟨w1.heap.size + 2, 0, none⟩), .pointer (some ⟨w1.heap.size + 1, 0, none⟩), .pointer (some ⟨w1.heap.size + 3, 0, none⟩), .pointer (some ⟨w1.heap.size, 0, none⟩)]) (G := RcG) (xs := XS) (R := AkR (w1.heap.size + 2) (w1.heap.size + 1) (w1.heap.size + 3) w1.heap.size os k a c Z) (T := AkT (w1.heap.size + 2) (w1.heap.size + 1) (w1.heap.size + 3) w1.heap.size a) (by simp [Act.eval]) (enters_of Tryd.func99 (by kernel_rfl) rfl)
    (HSQ.out (w1.heap.size + 2) (w1.heap.size + 1) (w1.heap.size + 3) w1.heap.size) (fun j hj => (HLT.out j hj).1) (fun A hA => HR5.out.keeps (X := fun _ => False) (Keeps.of_all hA) (fun _ _ h => h)) (fun x args W' hG => by rw [hG]; rfl)
    (fun O s W' => IcI w.heap.size w O s W') (fun d O W' => d = .ret ∧ (∀ j, O j ↔ j = w.heap.size) ∧ Vb W' w.heap.size 4 [.bool true] ∧ XS ≠ [] ∧ Below w.heap.size w W') (fun j => j = w.heap.size) ?hC HI5.out ?round ?done ?stop)
  case hC =>
    intro d
    have z1 := HS1.out
    have z2 := HS5.out
    refine ⟨?_, ?_, ?_, ?_⟩
    · rintro O s A h j hj
      obtain rfl := (h.o j).1 hj
      exact ⟨h.a.lt, fun e => (HLT.out _ e).2 rfl⟩
    · rintro O A ⟨_, h1, h2, _, _⟩ j hj
      obtain rfl := (h1 j).1 hj
      exact ⟨h2.lt, fun e => (HLT.out _ e).2 rfl⟩
    · rintro O s A B h hk
      exact ⟨h.o, h.a.keeps hk (fun e => by omega), h.no, h.bl.trans (hk.below h.bl.size (fun j hj e => by omega))⟩
    · rintro O A B ⟨h0, h1, h2, h3, h4⟩ hk
      exact ⟨h0, h1, h2.keeps hk (fun e => by omega), h3, h4.trans (hk.below h4.size (fun j hj e => by omega))⟩
  case round =>
    rintro l2 O s y args W6 hl2 ⟨rec, hrec⟩ hI6 hOl _ _ hpre hGx hsz6
    obtain rfl : args = #[.int .i64 (y : Nat)] := hGx
    have HXN : Hid (XS ≠ []) := hide (fun e => by rw [e] at hpre; have := hpre.length_le; simp at this)
    have HI6 := hide hI6
    have HSZ6 := hide hsz6
    clear hI6 hpre hrec hOl hsz6
    gi_wp2
    refine ⟨Below.refl _ _, ?_⟩
    intro W7 hk7
    have z1 := HS1.out
    have z2 := HS5.out
    have z3 := HSZ6.out
    have I7 : IcI w.heap.size w O s W7 := ⟨HI6.out.o, HI6.out.a.keeps hk7 (fun e => by omega), HI6.out.no, HI6.out.bl.trans (hk7.below HI6.out.bl.size (fun j hj e => by omega))⟩
    have HI7 := hide I7
    have ca := I7.a.cell (i := 0) rfl
    have fa := I7.a.frozen 0
    have HV9 : Hid (Vb (W7.setCell ⟨w.heap.size, 0, none⟩ (.bool true)) w.heap.size 4 [.bool true]) := hide (I7.a.set 0 (.bool true))
    have kk : Keeps (fun j => j = w.heap.size) W7 (W7.setCell ⟨w.heap.size, 0, none⟩ (.bool true)) := Keeps.set1 _ _ _ _
    have HK9 : Hid (Keeps O W7 (W7.setCell ⟨w.heap.size, 0, none⟩ (.bool true))) := hide (kk.mono (fun j _ e => (HI7.out.o j).2 e))
    have HB9 : Hid (Below w.heap.size w (W7.setCell ⟨w.heap.size, 0, none⟩ (.bool true))) := hide (I7.bl.trans (kk.below I7.bl.size (fun j hj e => by omega)))
    clear HI6 hk7 z1 z2 z3 I7 kk
    gi_wp2
    exact ⟨HK9.out, O, fun _ _ h => h, rfl, HI7.out.o, HV9.out, HXN.out, HB9.out⟩
  case done =>
    rintro D O W6 hD hI6 hk6 hm6 hKD
    have z1 := HS1.out
    have z2 := HS5.out
    have ca := hI6.a.cell (i := 0) rfl
    have fa := hI6.a.frozen 0
    have HD : Hid (decide (XS ≠ []) = false) := hide (decide_eq_false (fun h => h hI6.no))
    have HV9 : Hid (Vb (W6.setCell ⟨w.heap.size, 0, none⟩ (.bool false)) w.heap.size 4 [.bool false]) := hide (hI6.a.set 0 (.bool false))
    have kk : Keeps (fun j => j = w.heap.size) W6 (W6.setCell ⟨w.heap.size, 0, none⟩ (.bool false)) := Keeps.set1 _ _ _ _
    have HB9 : Hid (Below w.heap.size w (W6.setCell ⟨w.heap.size, 0, none⟩ (.bool false))) := hide (hI6.bl.trans (kk.below hI6.bl.size (fun j hj e => by omega)))
    have HMK : Hid (Mks (fun _ => False) (w.heap.size + 1) (W6.setCell ⟨w.heap.size, 0, none⟩ (.bool false)) [{ target := .collected D, args := #[] }]) := hide ⟨[D], rfl, by simp, fun E hE => by rw [List.mem_singleton.1 hE]; exact ⟨(kk.block D (Array.getElem?_eq_some_iff.1 hKD).1 (fun e => by omega)).trans hKD, by omega, fun h => h⟩⟩
    clear hI6 hk6 hm6 hKD hD z1 z2 kk
    go_wp2_with fail
    refine leaves_mks HMK.out (fun w9 hk9 => ?_)
    exact ⟨_, results_b1 rfl _ _ w.heap.size rfl ((HV9.out.keeps hk9 (fun e => by have := e.1; omega)).cell (i := 0) rfl), by rw [HD.out], HB9.out.trans (hk9.below HB9.out.size (fun q hq e => by have := e.1; omega))⟩
  case stop =>
    rintro d D O W6 hD ⟨rfl, h1, h2, h3, h4⟩ hk6 hm6 hKD
    have z1 := HS1.out
    have z2 := HS5.out
    have HD : Hid (decide (XS ≠ []) = true) := hide (decide_eq_true h3)
    have HV9 := hide h2
    have HB9 := hide h4
    have HMK : Hid (Mks (fun _ => False) (w.heap.size + 1) W6 [{ target := .collected D, args := #[] }]) := hide ⟨[D], rfl, by simp, fun E hE => by rw [List.mem_singleton.1 hE]; exact ⟨hKD, by omega, fun h => h⟩⟩
    clear hk6 hm6 hKD hD z1 z2 h1 h2 h3 h4
    refine wpIn_wide.2 ?_
    go_wp2
    refine leaves_mks HMK.out (fun w9 hk9 => ?_)
    exact ⟨_, results_b1 rfl _ _ w.heap.size rfl ((HV9.out.keeps hk9 (fun e => by have := e.1; omega)).cell (i := 0) rfl), by rw [HD.out], HB9.out.trans (hk9.below HB9.out.size (fun q hq e => by have := e.1; omega))⟩

theorem inCheck_any (a : Option Addr) (c : Nat) (Z : List Int) (s k : Nat) (hs : s ≤ 1) (hk : Fst Z (pc s 6) k) (w : World) (hz : Rd w a 64 c Z) (hT : TabS w) :
    Calls Tryd.prog 43 #[.slice a 64 c, .int .i64 s] w fun e w' => e = .returned (.bool (decide (atk Z k (1 - s) ≠ []))) ∧ Below w.heap.size w w' := by
  have HPC := hide (pieceOf_any s 6 (by omega))
  have HIX := hide (index_king a c Z (pc s 6) k hk w hz)
  have HOT := hide (other_any s hs)
  have HAT := hide (attacked_any a c Z k (1 - s) hk.1 w hz hT)
  generalize decide (atk Z k (1 - s) ≠ []) = r at *
  obtain ⟨os, hos⟩ : ∃ os, 1 - s = os := ⟨_, rfl⟩
  rw [hos] at HOT HAT
  obtain ⟨P, hP⟩ : ∃ P, pc s 6 = P := ⟨_, rfl⟩
  rw [hP] at HPC HIX
  clear hz hT hk hs hos hP
  go_enter Tryd.func43, Tryd.ntmps43
  go_upto_region 2 with (first | (go_at_call 51; refine (HPC.out _).mono ?_; rintro e w5 ⟨rfl, hw⟩; subst w5) | (go_at_call 67; refine HIX.out.mono ?_; rintro e w5 ⟨rfl, hw⟩; subst w5))
  go_wp2_with (go_at_call 44; refine (HOT.out _).mono ?_; rintro e w5 ⟨rfl, hw⟩; subst w5)
  refine HAT.out.mono ?_
  rintro e w5 ⟨rfl, hb⟩
  have HB := hide hb
  clear hb
  go_wp2_with fail
  go_ret
  exact ⟨rfl, HB.out⟩

end Go.Proofs.YtdmlamnonbmboaaDoor

namespace Go.Proofs.YtdmlamnonbmboaaDoor
open Go.RowKit Go.Shelf

theorem atL_lt (Z : List Int) (t b : Nat) : (atL Z t b).Pairwise (· < ·) := List.Pairwise.sublist List.filter_sublist List.pairwise_lt_range
theorem atL_nodup (Z : List Int) (t b : Nat) : (atL Z t b).Nodup := (atL_lt Z t b).imp (fun h => by omega)
theorem atL_len (Z : List Int) (t b : Nat) : (atL Z t b).length ≤ 64 := by
  unfold atL
  exact Nat.le_trans (List.length_filter_le _ _) (by simp)
theorem atk_perm {Z : List Int} (hz : Pz Z) {t b : Nat} (ht : t < 64) (hb : b = 0 ∨ b = 1) : (atk Z t b).Perm (atL Z t b) :=
  (List.perm_ext_iff_of_nodup (atk_nodup Z b ht) (atL_nodup Z t b)).2 (mem_atk hz ht hb)
theorem atk_len {Z : List Int} (hz : Pz Z) {t b : Nat} (ht : t < 64) (hb : b = 0 ∨ b = 1) : (atk Z t b).length = (atL Z t b).length := (atk_perm hz ht hb).length_eq

end Go.Proofs.YtdmlamnonbmboaaDoor

namespace Go.Proofs.YtdmlamnonbmboaaDoor
set_option maxRecDepth 20000

/-- How many steps a place is away. -/
def jz (f t q : Nat) : Nat := ((List.range 8).takeWhile fun j => !(Nat.beq (bt f t j) q)).length

theorem tab_K : ((List.range 64).all fun f => (List.range 64).all fun t => (decide (dX f t = 0) && decide (dY f t = 0)) || !(slant f t || strai f t) || (Nat.ble 1 (mD f t) && Nat.ble (mD f t) 7 && (List.range (mD f t)).all fun j => decide (((bt f t j : Nat) : Int) = (f : Int) + ((j : Int) + 1) * sD f t) && Nat.blt (bt f t j) 64 && (Nat.beq (bt f t j) t == Nat.beq (j + 1) (mD f t)) && Nat.beq (jz f t (bt f t j)) j)) = true := by decide +kernel

theorem mD_bd {f t : Nat} (hf : f < 64) (ht : t < 64) (hne : ¬ (dX f t = 0 ∧ dY f t = 0)) (ha : (slant f t || strai f t) = true) : 1 ≤ mD f t ∧ mD f t ≤ 7 ∧
    ∀ j, j < mD f t → ((bt f t j : Nat) : Int) = (f : Int) + ((j : Int) + 1) * sD f t ∧ bt f t j < 64 ∧ (bt f t j = t ↔ j + 1 = mD f t) ∧ jz f t (bt f t j) = j := by
  have h := all64 (all64 tab_K hf) ht
  have hn : (decide (dX f t = 0) && decide (dY f t = 0)) = false := by
    by_cases h1 : dX f t = 0 <;> by_cases h2 : dY f t = 0 <;> simp [h1, h2] at hne ⊢
  rw [hn, ha] at h
  simp only [Bool.not_true, Bool.or_self, Bool.false_or, Bool.and_eq_true] at h
  obtain ⟨⟨h1, h2⟩, h3⟩ := h
  refine ⟨Nat.le_of_ble_eq_true h1, Nat.le_of_ble_eq_true h2, fun j hj => ?_⟩
  have h4 := allN h3 hj
  simp only [Bool.and_eq_true, decide_eq_true_eq, beq_iff_eq] at h4
  obtain ⟨⟨⟨a1, a2⟩, a3⟩, a4⟩ := h4
  refine ⟨a1, Nat.blt_eq ▸ a2, ?_, Nat.eq_of_beq_eq_true a4⟩
  constructor
  · intro e
    rw [e] at a3
    rw [Nat.beq_refl] at a3
    exact Nat.eq_of_beq_eq_true a3.symm
  · intro e
    rw [e, Nat.beq_refl] at a3
    exact Nat.eq_of_beq_eq_true a3

theorem bt_succ {f t j : Nat} (hf : f < 64) (ht : t < 64) (hne : ¬ (dX f t = 0 ∧ dY f t = 0)) (ha : (slant f t || strai f t) = true) (hj : j + 1 < mD f t) : ((bt f t j : Nat) : Int) + sD f t = ((bt f t (j + 1) : Nat) : Int) := by
  obtain ⟨-, -, h⟩ := mD_bd hf ht hne ha
  rw [(h j (by omega)).1, (h (j + 1) hj).1, Int.natCast_succ, Int.add_mul ((j : Int) + 1) 1, Int.one_mul]
  omega

theorem bt_zero {f t : Nat} (hf : f < 64) (ht : t < 64) (hne : ¬ (dX f t = 0 ∧ dY f t = 0)) (ha : (slant f t || strai f t) = true) : (f : Int) + sD f t = ((bt f t 0 : Nat) : Int) := by
  obtain ⟨h1, -, h⟩ := mD_bd hf ht hne ha
  rw [(h 0 (by omega)).1]
  simp

theorem sg_bd (x : Int) : -1 ≤ sg x ∧ sg x ≤ 1 := by
  unfold sg
  split
  · omega
  · split <;> omega

theorem dXY_bd {f t : Nat} (hf : f < 64) (ht : t < 64) : -7 ≤ dX f t ∧ dX f t ≤ 7 ∧ -7 ≤ dY f t ∧ dY f t ≤ 7 := by
  unfold dX dY
  omega

theorem mul_bd {x y : Int} (hx : -7 ≤ x ∧ x ≤ 7) (hy : -7 ≤ y ∧ y ≤ 7) : -49 ≤ x * y ∧ x * y ≤ 49 := by
  have h : (x * y).natAbs ≤ 7 * 7 := by
    rw [Int.natAbs_mul]
    exact Nat.mul_le_mul (by omega) (by omega)
  omega

/-- So far nothing is in the way. -/
theorem btw_end {Z : List Int} {f t j : Nat} (hj : j + 1 = mD f t) (h : ∀ i, i < j → zg Z (bt f t i) = 0) : ((btw f t).all fun k => zg Z k == 0) = true := by
  rw [List.all_eq_true]
  intro k hk
  simp only [btw, List.mem_map, List.mem_range] at hk
  obtain ⟨i, hi, rfl⟩ := hk
  simpa using h i (by omega)
theorem btw_no {Z : List Int} {f t j : Nat} (hj : j + 1 < mD f t) (h : zg Z (bt f t j) ≠ 0) : ((btw f t).all fun k => zg Z k == 0) = false := by
  rw [Bool.eq_false_iff]
  intro e
  rw [List.all_eq_true] at e
  have := e (bt f t j) (by simp only [btw, List.mem_map, List.mem_range]; exact ⟨j, by omega, rfl⟩)
  exact h (by simpa using this)

end Go.Proofs.YtdmlamnonbmboaaDoor
