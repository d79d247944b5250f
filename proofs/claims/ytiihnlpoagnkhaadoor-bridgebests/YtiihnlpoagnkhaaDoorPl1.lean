/-
  What a trick's end and a state between tricks answer, if the play of a trick is known. No conditions beyond those that each theorem bears.
-/
import Derived.Test.YtiihnlpoagnkhaaDoorPl0
import Derived.Deep.Cut
import Derived.Deep.CutRange
import Derived.Deep.DeepCutAuto
import Derived.Deep.CutBlock
import Derived.Deep.RegionWith
import Derived.Deep.RegionLaw
import Derived.Deep.RegionHeld3
namespace Go.Proofs.YtiihnlpoagnkhaaDoor
open Go.RowKit

/-- What is asked of a set of cards. -/
structure Mk (m : Nat) (hold : Nat → Nat) : Prop where
  lt : m < 18446744073709551616
  b52 : ∀ j, m.testBit j = true → j < 52
  h4 : ∀ c, c < 52 → hold c < 4

/-- What goOn answers, f steps deep. -/
def GoOn (db mb : Nat) (hold : Nat → Nat) (s : Int) (f : Nat) : Prop :=
  ∀ (m ld n pb : Nat) (tr : List Nat) (w : World), Mk m hold → ld < 4 → 1 ≤ n → n ≤ 13 → tr.length ≤ 4 → (∀ x ∈ tr, x < 52) → Even4 (HF m hold) ld tr.length n → 5 * (n - 1) + (5 - tr.length) ≤ f → Env w db mb hold s → Put w pb tr → pb ≠ 0 → pb ≠ db →
    Calls Tryd.prog 30 #[.pointer (some ⟨db, 0, none⟩), kv m ld, .slice (some ⟨pb, 0, none⟩) tr.length 4] w fun e w' => e = .returned (.int .i64 (bt (winF s) f (HF m hold) ld tr : Nat)) ∧ Env w' db mb hold s ∧ Keeps (fun b => b = mb ∨ b = pb) w w' ∧ Put w' pb tr

/-- What tricks answers with n tricks to come. -/
def TrV (m : Nat) (hold : Nat → Nat) (s : Int) (ld n : Nat) : Nat := if n = 0 then 0 else bt (winF s) (5 * n) (HF m hold) ld []

def Tricks (db mb : Nat) (hold : Nat → Nat) (s : Int) (n : Nat) : Prop :=
  ∀ (m ld : Nat) (w : World), Mk m hold → ld < 4 → n ≤ 13 → Even4 (HF m hold) ld 0 n → Env w db mb hold s → db ≠ 0 →
    Calls Tryd.prog 28 #[.pointer (some ⟨db, 0, none⟩), kv m ld] w fun e w' => e = .returned (.int .i64 (TrV m hold s ld n : Nat)) ∧ Env w' db mb hold s ∧ Keeps (fun b => b = mb) w w'

theorem zero_iff (m : Nat) (hold : Nat → Nat) (hm : Mk m hold) (ld n : Nat) (hE : Even4 (HF m hold) ld 0 n) : m = 0 ↔ n = 0 := by
  constructor
  · intro e
    subst e
    have := hE 0 (by omega)
    rw [if_neg (by omega)] at this
    rw [← this]
    simp [HF, heldL]
  · intro e
    subst e
    apply Nat.eq_of_testBit_eq
    intro j
    rw [Nat.zero_testBit]
    cases hb : m.testBit j with
    | false => rfl
    | true =>
      have hj := hm.b52 j hb
      have h4 := hm.h4 j hj
      have := hE (hold j) h4
      rw [if_neg (by omega)] at this
      have hmem : j ∈ HF m hold (hold j) := by simp [HF, heldL, hj, hb]
      rw [List.eq_nil_of_length_eq_zero this] at hmem
      cases hmem

theorem make04 (W : World) : (Instr.makeSlice 27 (.int .i64 0) (.int .i64 4)).run Tryd.prog W = .ok (.slice (some ⟨W.heap.size, 0, none⟩) 0 4) (W.alloc (.cells #[.int .i64 0, .int .i64 0, .int .i64 0, .int .i64 0] 3)) := by
  obtain ⟨i0, hi, hz0, hz1, hz2⟩ := info_parts Tryd.info3
  have := run_makeSlice (P := Tryd.prog) W 27 3 i0 (.int .i64 0) Tryd.underlying27 hi hz0 .i64 .i64 0 4 (by omega) (by omega) (by rw [hz1]; decide) (by rw [hz2]; decide) (by omega)
  rw [hz1] at this
  have e : madeCells (Value.int .i64 0).cells (Int.toNat 4 * 1) = #[.int .i64 0, .int .i64 0, .int .i64 0, .int .i64 0] := by
    apply Array.toList_inj.1
    exact toList_madeCells_one (Value.int .i64 0) 4
  rw [e] at this
  exact this

theorem put_new (W : World) : Put (W.alloc (.cells #[.int .i64 0, .int .i64 0, .int .i64 0, .int .i64 0] 3)) W.heap.size [] :=
  ⟨rfl, Or.inr ⟨W.heap.size, 4, #[.int .i64 0, .int .i64 0, .int .i64 0, .int .i64 0], rfl, Nat.zero_le _, heap_alloc_new W _, by simp, by unfold maxLen; omega, rfl, rfl⟩⟩

/-- A state lies in a block. -/
def St (w : World) (b m d : Nat) : Prop := w.heap[b]? = some (.cells #[.int .u64 (m : Int), .int .i64 (d : Int)] 51 (0, 0))

theorem St.cells {w : World} {b m d : Nat} (h : St w b m d) : w.cell? ⟨b, 0, none⟩ = some (.int .u64 (m : Int)) ∧ w.cell? ⟨b, 1, none⟩ = some (.int .i64 (d : Int)) := by
  have h' : w.heap[b]? = _ := h
  simp [World.cell?, h']

theorem St.lt {w : World} {b m d : Nat} (h : St w b m d) : b < w.heap.size := (Array.getElem?_eq_some_iff.1 h).1

theorem St.new (w : World) (m d : Nat) : St (w.alloc (.cells #[.int .u64 (m : Int), .int .i64 (d : Int)] 51)) w.heap.size m d := heap_alloc_new w _

theorem St.keeps {w w' : World} {b m d : Nat} (h : St w b m d) {X : Nat → Prop} (hk : Keeps X w w') (hx : ¬ X b) : St w' b m d := (hk.block b h.lt hx).trans h

theorem Keeps.two {w w' : World} {mb pb : Nat} (h : Keeps (fun b => b = mb ∨ b = pb) w w') (B : Nat) (hp : B ≤ pb) {w0 : World} (h0 : Below B w0 w) (hw0 : w0.heap.size = B) : Keeps (fun b => b = mb) w0 w' :=
  ⟨h.os.trans h0.os, h.tape.trans h0.tape, h.output.trans h0.output, Nat.le_trans h0.size h.size, fun i hi hx => (h.block i (Nat.lt_of_lt_of_le hi h0.size) (by omega)).trans (h0.block i (by omega))⟩

set_option maxRecDepth 100000 in
set_option maxHeartbeats 4000000 in
theorem tricks_of (db mb : Nat) (hold : Nat → Nat) (s : Int) (n f : Nat) (hf : 5 * n ≤ f) (G : n ≠ 0 → GoOn db mb hold s f) : Tricks db mb hold s n := by
  intro m ld w hm hld hn13 hE hEnv hdb
  have hz := zero_iff m hold hm ld n hE
  have hlt := hm.lt
  by_cases h0 : n = 0
  · obtain rfl := hz.2 h0
    have HV : Hid (TrV 0 hold s ld n = 0) := hide (by rw [TrV, if_pos h0])
    have HEnv := hide hEnv
    clear hEnv hE hm hz h0 G
    go_enter Tryd.func28, Tryd.ntmps28
    go_wp2
    go_ret
    refine ⟨by rw [HV.out]; rfl, ?_, ?_⟩
    · exact HEnv.out.below ((Below.refl _ _).alloc (Nat.le_refl _) _)
    · exact Keeps.of_all ((Below.refl _ _).alloc (Nat.le_refl _) _)
  · have hm0 : ((m : Int) == 0) = false := by
      have : m ≠ 0 := fun e => h0 (hz.1 e)
      simp; omega
    have HG := hide (G h0 m ld n)
    have HM := hide hm
    have HE := hide hE
    have HV : Hid (TrV m hold s ld n = bt (winF s) (5 * n) (HF m hold) ld []) := hide (by rw [TrV, if_neg h0])
    have HD : Hid (bt (winF s) f (HF m hold) ld [] = bt (winF s) (5 * n) (HF m hold) ld []) := hide (bt_deep (winF s) (5 * n) (HF m hold) ld n [] f hld (by omega) (by simp) (by simpa using hE) (by simp; omega) hf)
    have GV : Hid (Good hold s m ld (bt (winF s) (5 * n) (HF m hold) ld [])) := hide (by
      intro n' hn' _ hE'
      have e1 := hE 0 (by omega)
      have e2 := hE' 0 (by omega)
      rw [if_neg (by omega)] at e1 e2
      rw [e1] at e2
      rw [e2])
    clear hE hm hz G
    go_enter Tryd.func28, Tryd.ntmps28
    go_upto_region 3 with fail
    have hdbs : db < w.heap.size := World.block_lt_of_cell? w _ hEnv.str
    have h0s : 0 < w.heap.size := World.block_lt_of_cell? w _ (hEnv.tab 0 (by omega))
    have S0 := St.new w m ld
    have B0 : Below w.heap.size w (w.alloc (.cells #[.int .u64 (m : Int), .int .i64 (ld : Int)] 51)) := (Below.refl _ _).alloc (Nat.le_refl _) _
    have E0 := hEnv.below B0
    have hs0 : (w.alloc (.cells #[.int .u64 (m : Int), .int .i64 (ld : Int)] 51)).heap.size = w.heap.size + 1 := by simp
    generalize w.alloc (.cells #[.int .u64 (m : Int), .int .i64 (ld : Int)] 51) = w1 at *
    clear hEnv
    obtain ⟨c0, c1⟩ := S0.cells
    have d53 := E0.fnd
    have hS0 := hide S0
    have hB0 := hide B0
    have hE0 := hide E0
    have HS := hide hs0
    clear S0 B0 E0 hs0
    rcases (hE0.out.mp.of_block (w' := w1.drew) rfl).look m ld with ⟨v, LK, hG⟩ | LK
    · have hv := hG n (by omega) hld HE.out
      have HVV : Hid (TrV m hold s ld n = v) := hide (by rw [HV.out, hv])
      clear hG hv
      go_region
      go_wp2
      go_ret
      refine ⟨by rw [HVV.out]; rfl, ?_, ?_⟩
      · exact hE0.out.below ((Below.refl _ _).drew)
      · exact Keeps.of_all hB0.out.drew
    · go_region
      go_wp2_with fail
      have E2 : Env w1.drew db mb hold s := hE0.out.below ((Below.refl _ _).drew)
      have S2 : St w1.drew w.heap.size m ld := hS0.out
      have B2 : Below w.heap.size w w1.drew := hB0.out.drew
      have hs2 : w1.drew.heap.size = w.heap.size + 1 := HS.out
      clear c0 c1 d53 LK hE0 hS0 hB0
      generalize w1.drew = w2 at *
      obtain ⟨c0, c1⟩ := S2.cells
      have E3 : Env (w2.drew.alloc (.cells #[.int .i64 0, .int .i64 0, .int .i64 0, .int .i64 0] 3)) db mb hold s := E2.below (((Below.refl _ _).drew).alloc (Nat.le_refl _) _)
      have P3 : Put (w2.drew.alloc (.cells #[.int .i64 0, .int .i64 0, .int .i64 0, .int .i64 0] 3)) (w.heap.size + 1) [] := by
        have := put_new w2.drew
        rw [show w2.drew.heap.size = w.heap.size + 1 from hs2] at this
        exact this
      have CALL := hide (HG.out (w.heap.size + 1) [] _ HM.out hld (by omega) hn13 (by simp) (by simp) (by simpa using HE.out) (by simp; omega) E3 P3 (by omega) (by omega))
      have HS2 := hide hs2
      have HE2 := hide E2
      have HS20 := hide S2
      have HB2 := hide B2
      clear hs2 E2 S2 B2 E3 P3
      have MK := make04
      have hsz2 : w2.heap.size = w.heap.size + 1 := HS2.out
      go_region_with (go_at_call 30; refine CALL.out.mono ?_; rintro e w9 ⟨rfl, hE9, hK9, hP9⟩)
      all_goals
        have hne : w.heap.size ≠ mb := HE2.out.cell_ne c0
        have S9 : St w9 w.heap.size m ld := St.keeps (w := w2.drew.alloc (.cells #[.int .i64 0, .int .i64 0, .int .i64 0, .int .i64 0] 3)) ((Below.heap_alloc w2.drew _ _ (by rw [show w2.drew.heap.size = w.heap.size + 1 from HS2.out]; omega)).trans HS20.out) hK9 (by omega)
        have K9 : Keeps (fun b => b = mb) w w9 := hK9.two w.heap.size (by omega) (((HB2.out).drew).alloc (by show w.heap.size ≤ w2.heap.size; omega) _) rfl
        obtain ⟨w10, PU, M10, G10⟩ := (hE9.mp.of_block (w' := w9.drew) rfl).put m ld (bt (winF s) f (HF m hold) ld []) (by rw [HD.out]; exact GV.out)
        have HVV : Hid (TrV m hold s ld n = bt (winF s) f (HF m hold) ld []) := hide (by rw [HV.out, HD.out])
        have hmb9 := hE9.mp.lt
        have KG : Keeps (fun b => b = mb) w9 w10 := ⟨G10.os, G10.tape, G10.output, G10.size, fun i hi hx => G10.block i hi (by simp; exact hx)⟩
        have hmdb : db ≠ mb := hE9.cell_ne hE9.str
        have hm0' : (0 : Nat) ≠ mb := hE9.cell_ne (hE9.tab 0 (by omega))
        have E10 := hide (hE9.keeps KG hm0' hmdb M10)
        have K10 := hide (K9.trans KG)
        clear c0 c1 HE2 HS20 HB2 CALL hK9 hP9 M10 G10 KG K9 HG HD HV GV
        obtain ⟨c0, c1⟩ := S9.cells
        have d53 := hE9.fnd
        clear hE9 S9
        generalize bt (winF s) f (HF m hold) ld [] = v at *
        go_wp2_with fail
        go_region
        go_wp2
        all_goals
          go_ret
          exact ⟨congrArg (fun x : Nat => Ending.returned (.int .i64 (x : Int))) HVV.out.symm, E10.out, K10.out⟩

end Go.Proofs.YtiihnlpoagnkhaaDoor
