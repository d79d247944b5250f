/-
  Chess: may pieces stand so: mayStand, walked. No conditions beyond those that each theorem bears.
  A result that is a row of cells, read. No conditions beyond those that each theorem bears.
  Chess: the table of castlings. No conditions beyond those that each theorem bears.
  Chess: are kings and rooks where the rights need them: mayCastle, walked. No conditions beyond those that each theorem bears.
  Chess: a piece of a side, and how far on the next place is for its pawns: walked. No conditions beyond those that each theorem bears.
-/
import Derived.Test.YtdmlamnonbmboaaGreatDoorV15
import Derived.Laws.Rows
namespace Go.Proofs.YtdmlamnonbmboaaGreatDoor
open Go.RowKit Go.Shelf

/-- How often each piece stands on the first places. -/
def tmL (Z : List Int) (n : Nat) : List Int := (List.range 13).map fun j : Nat => ((cnt Z ((j : Int) - 6) n : Nat) : Int)
theorem tmL_len (Z : List Int) (n : Nat) : (tmL Z n).length = 13 := by simp [tmL]
theorem tmL_at (Z : List Int) (n : Nat) {j : Nat} (hj : j < 13) : (tmL Z n).getD j 0 = ((cnt Z ((j : Int) - 6) n : Nat) : Int) := by
  simp [tmL, List.getD, hj]
theorem tmL_zero (Z : List Int) : tmL Z 0 = List.replicate 13 0 := by
  simp [tmL, cnt_zero, List.range_succ]
theorem tmL_g (Z : List Int) (n : Nat) {j : Nat} (hj : j < 13) : (tmL Z n)[j]? = some ((cnt Z ((j : Int) - 6) n : Nat) : Int) := by
  simp [tmL, hj]
theorem tmL_succ {Z : List Int} {n x : Nat} (hx : 6 + zg Z n = (x : Int)) : (tmL Z n).set x ((tmL Z n).getD x 0 + 1) = tmL Z (n + 1) := by
  apply List.ext_getElem?
  intro j
  by_cases hj : j < 13
  · rw [tmL_g Z (n + 1) hj, cnt_succ]
    by_cases e : x = j
    · subst e
      rw [List.getElem?_set_self (by rw [tmL_len]; exact hj), tmL_at Z n hj, if_pos (by omega)]
      rfl
    · rw [List.getElem?_set_ne e, tmL_g Z n hj, if_neg (by omega)]
      rfl
  · rw [List.getElem?_eq_none (by rw [List.length_set, tmL_len]; omega), List.getElem?_eq_none (by rw [tmL_len]; omega)]

attribute [local irreducible] tmL cnt

set_option maxRecDepth 100000 in
set_option maxHeartbeats 8000000 in
theorem mayStand_any (a : Option Addr) (n c : Nat) (Z : List Int) (w : World) (h : Rd w a n c Z) :
    Calls Tryz.prog 38 #[.slice a n c] w fun e w' => e = .returned (.bool (dB (Std Z))) ∧ Below w.heap.size w w' := by
  have hcm := h.max
  unfold maxLen at hcm
  have hcc := h.cap
  have hlen := h.len
  by_cases hn : n = 64
  · subst hn
    have HNO : Hid (∀ i, i < 64 → ¬ okS Z i → dB (Std Z) = false) := hide (fun i hi ho => by
      exact dB_f (fun hs => ho (hs.2.1 i hi)))
    have HYE : Hid ((∀ i, i < 64 → okS Z i) → (dB (Std Z) = (decide (cnt Z (-6) 64 = 1) && decide (cnt Z 6 64 = 1)))) := hide (fun ho => by
      rw [Bool.eq_iff_iff]
      simp only [dB_iff, decide_eq_true_iff, Bool.and_eq_true]
      exact ⟨fun hs => ⟨hs.2.2.2, hs.2.2.1⟩, fun hs => ⟨hlen, ho, hs.2, hs.1⟩⟩)
    obtain ⟨rr, hrr⟩ : ∃ rr, dB (Std Z) = rr := ⟨_, rfl⟩
    rw [hrr] at HNO HYE ⊢
    clear hrr
    obtain ⟨bk, off, rfl, hc⟩ := h.cells (by omega)
    have HC : Hid (∀ i, i < 64 → w.cell? ⟨bk, off + i, none⟩ = some (.int .i64 (zg Z i))) := hide hc
    have HBK : Hid (bk < w.heap.size) := hide (World.block_lt_of_cell? w _ (hc 0 (by omega)))
    have HKI := hide kindOf_any
    obtain ⟨w1, hw1⟩ : ∃ w1, w.alloc (.cells #[.int .i64 0, .int .i64 0, .int .i64 0, .int .i64 0, .int .i64 0, .int .i64 0, .int .i64 0, .int .i64 0, .int .i64 0, .int .i64 0, .int .i64 0, .int .i64 0, .int .i64 0] 104) = w1 := ⟨_, rfl⟩
    have HB1 : Hid (Blk w1 w.heap.size 104 (tmL Z 0)) := hide (by rw [← hw1, tmL_zero]; exact Blk.new w 104 _ _ rfl)
    have HBL : Hid (Below w.heap.size w w1) := hide (by rw [← hw1]; exact (Below.refl _ w).alloc (Nat.le_refl _) _)
    clear h hc hlen
    go_enter Tryz.func38, Tryz.ntmps38
    go_upto_region 4 with fail
    clear hw1
    go_wp2_with fail
    go_loopw [11] (fun v wr => ∃ i : Nat, v = .int .i64 i ∧ i ≤ 64 ∧ Hid (∀ j, j < i → okS Z j) ∧ Hid (Blk wr w.heap.size 104 (tmL Z i)) ∧ Hid (Below w.heap.size w wr)) (fun v _ => 64 - (intOf v).toNat)
    case atStart => exact ⟨0, rfl, by omega, hide (fun j hj => absurd hj (by omega)), HB1, HBL⟩
    case round =>
      obtain ⟨i, rfl, hi, hok, hbk, hbl⟩ := hrel
      clear HB1 HBL
      by_cases hlt : i < 64
      · have hlt' : (i : Int) < 64 := by omega
        have cz := (hbl.out.cell (p := ⟨bk, off + i, none⟩) HBK.out).trans (HC.out i hlt)
        have HOK : Hid (okS Z i ↔ (-6 ≤ zg Z i ∧ zg Z i ≤ 6 ∧ ((zg Z i).natAbs = 1 → 8 ≤ i ∧ i < 56))) := hide Iff.rfl
        have HNI := hide (HNO.out i hlt)
        have HTS := hide (fun (x : Nat) (hx : 6 + zg Z i = (x : Int)) => tmL_succ (Z := Z) (n := i) hx)
        have HTA := hide (fun x (h13 : x < 13) => tmL_at Z i (j := x) h13)
        have HTL := hide (fun x => cnt_le Z x i)
        obtain ⟨z, hz⟩ : ∃ z, zg Z i = z := ⟨_, rfl⟩
        rw [hz] at cz HOK HTS
        clear hz
        by_cases h1 : -6 ≤ z
        · by_cases h2 : z ≤ 6
          · have HKZ := hide (HKI.out z h1 h2 wr)
            obtain ⟨x, hx⟩ : ∃ x : Nat, 6 + z = (x : Int) := ⟨(6 + z).toNat, by omega⟩
            have hx13 : x < 13 := by omega
            have ct := hbk.out.cell (i := x) (by rw [tmL_len]; exact hx13)
            have ft := hbk.out.frozen x
            rw [HTA.out x hx13] at ct
            have hcl := HTL.out ((x : Int) - 6)
            have HST := hide (HTS.out x hx)
            rw [HTA.out x hx13] at HST
            obtain ⟨cc, hcc2⟩ : ∃ cc, cnt Z ((x : Int) - 6) i = cc := ⟨_, rfl⟩
            rw [hcc2] at ct hcl HST
            have HBS : Hid (Blk (wr.setCell ⟨w.heap.size, x, none⟩ (.int .i64 ((cc : Int) + 1))) w.heap.size 104 (tmL Z (i + 1))) := hide (by rw [← HST.out]; exact hbk.out.set x _)
            have HBW : Hid (Below w.heap.size w (wr.setCell ⟨w.heap.size, x, none⟩ (.int .i64 ((cc : Int) + 1)))) := hide (hbl.out.setCell (p := ⟨w.heap.size, x, none⟩) (Nat.le_refl _) _)
            have HNX : Hid (okS Z i → ∀ j, j < i + 1 → okS Z j) := hide (fun ho j hj => by
              by_cases e : j = i
              · subst e; exact ho
              · exact hok.out j (by omega))
            clear hcc2 HTS HTA HTL HST hbk hok
            by_cases hp : z.natAbs = 1
            · by_cases h3 : i < 8
              · have HF := hide (HNI.out (fun ho => by have := ((HOK.out.1 ho).2.2 hp).1; omega))
                rw [hp] at HKZ
                clear hp HOK HNI HNX HBS HBW
                go_wp2_with (go_at_call 74; refine HKZ.out.mono ?_; rintro e w5 ⟨rfl, hw⟩; subst w5)
                go_ret
                exact ⟨by rw [HF.out]; rfl, hbl.out⟩
              · by_cases h4 : i < 56
                · have HO1 := hide (HNX.out (HOK.out.2 ⟨h1, h2, fun _ => ⟨by omega, h4⟩⟩))
                  rw [hp] at HKZ
                  clear hp HOK HNI HNX
                  go_wp2_with (go_at_call 74; refine HKZ.out.mono ?_; rintro e w5 ⟨rfl, hw⟩; subst w5)
                  exact ⟨⟨i + 1, by go_num, by omega, HO1, HBS, HBW⟩, by simp [intOf]; omega⟩
                · have HF := hide (HNI.out (fun ho => by have := ((HOK.out.1 ho).2.2 hp).2; omega))
                  rw [hp] at HKZ
                  clear hp HOK HNI HNX HBS HBW
                  go_wp2_with (go_at_call 74; refine HKZ.out.mono ?_; rintro e w5 ⟨rfl, hw⟩; subst w5)
                  go_ret
                  exact ⟨by rw [HF.out]; rfl, hbl.out⟩
            · have HO1 := hide (HNX.out (HOK.out.2 ⟨h1, h2, fun e => absurd e hp⟩))
              have hp' : (((z.natAbs : Nat) : Int) == 1) = false := by simp; omega
              obtain ⟨za, hza⟩ : ∃ za, z.natAbs = za := ⟨_, rfl⟩
              rw [hza] at HKZ hp'
              clear hp HOK HNI HNX hza
              go_wp2_with (go_at_call 74; refine HKZ.out.mono ?_; rintro e w5 ⟨rfl, hw⟩; subst w5)
              exact ⟨⟨i + 1, by go_num, by omega, HO1, HBS, HBW⟩, by simp [intOf]; omega⟩
          · have HF := hide (HNI.out (fun ho => h2 (HOK.out.1 ho).2.1))
            clear HOK HNI HTS HTA HTL
            go_wp2_with fail
            go_ret
            exact ⟨by rw [HF.out]; rfl, hbl.out⟩
        · have HF := hide (HNI.out (fun ho => h1 (HOK.out.1 ho).1))
          clear HOK HNI HTS HTA HTL
          go_wp2_with fail
          go_ret
          exact ⟨by rw [HF.out]; rfl, hbl.out⟩
      · obtain rfl : i = 64 := by omega
        have HY := hide (HYE.out hok.out)
        have c0 := hbk.out.cell (i := 0) (by rw [tmL_len]; omega)
        have c12 := hbk.out.cell (i := 12) (by rw [tmL_len]; omega)
        rw [tmL_at Z 64 (by omega)] at c0 c12
        have e0 : (((0 : Nat) : Int) - 6) = -6 := by omega
        have e12 : (((12 : Nat) : Int) - 6) = 6 := by omega
        rw [e0] at c0
        rw [e12] at c12
        generalize cnt Z (-6) 64 = n0 at *
        generalize cnt Z 6 64 = n1 at *
        by_cases hn0 : n0 = 1
        · subst hn0
          have q1 : ((n1 : Int) == 1) = decide (n1 = 1) := by
            by_cases q : n1 = 1
            · subst q; rfl
            · rw [decide_eq_false q]; simp; omega
          go_wp2_with fail
          go_ret
          exact ⟨by rw [HY.out, ← q1]; simp, hbl.out⟩
        · have q0 : ((n0 : Int) == 1) = false := by simp; omega
          rw [decide_eq_false hn0, Bool.false_and] at HY
          go_wp2_with fail
          go_ret
          exact ⟨by rw [HY.out]; rfl, hbl.out⟩
  · rw [show dB (Std Z) = false from dB_f (fun hs => hn (by have := hs.1; omega))]
    have hnb : ((n : Int) != 64) = true := by simp; omega
    clear h hlen
    go_enter Tryz.func38, Tryz.ntmps38
    go_wp2_with fail
    go_ret
    exact ⟨rfl, Below.refl _ _⟩

end Go.Proofs.YtdmlamnonbmboaaGreatDoor

namespace Go.Proofs.YtdmlamnonbmboaaGreatDoor
open Go.RowKit Go.Shelf

theorem results_row {fn : Func} {t : Tmp} {ty : TypeId} (h : fn.results = #[.cell t ty]) (tmps : Array Value) (w : World) (b : Nat) (hb : tmps.getD t undef = .pointer (some ⟨b, 0, none⟩)) {v : Value}
    (hr : (loadVar ty ⟨b, 0, none⟩).run Tryz.prog w = .ok v w) :
    (results fn tmps).run Tryz.prog w = .ok v w := by
  have hb' : tmps[t]?.getD undef = .pointer (some ⟨b, 0, none⟩) := by simpa using hb
  simp [results, h, hb', asAddr, hr]

end Go.Proofs.YtdmlamnonbmboaaGreatDoor

namespace Go.Proofs.YtdmlamnonbmboaaGreatDoor
open Go.RowKit Go.Shelf

/-- The table of castlings. -/
def cT : List Int := [0, 4, 7, 0, 4, 0, 1, 60, 63, 1, 60, 56]
theorem size106 : (Tryz.prog.info? 107).map (·.size) = some 12 := by kernel_rfl
theorem size105 : (Tryz.prog.info? 106).map (·.size) = some 3 := by kernel_rfl
theorem cT_len : (ivs cT).length = 12 := rfl

theorem run_cas (k : Nat) (hk : k < 4) (w : World) : (Instr.index 107 (.agg (ivs cT).toArray) (.int .i64 k)).run Tryz.prog w = .ok (.agg #[.int .i64 (sdP k : Nat), .int .i64 (kgP k : Nat), .int .i64 (rkP k : Nat)]) w := by
  match k, hk with
  | 0, _ => simp [Instr.index, Tryz.underlying107, run_underlying, asIntOf, part, go_sem, ivs, cT, sdP, kgP, rkP]
  | 1, _ => simp [Instr.index, Tryz.underlying107, run_underlying, asIntOf, part, go_sem, ivs, cT, sdP, kgP, rkP]
  | 2, _ => simp [Instr.index, Tryz.underlying107, run_underlying, asIntOf, part, go_sem, ivs, cT, sdP, kgP, rkP]
  | 3, _ => simp [Instr.index, Tryz.underlying107, run_underlying, asIntOf, part, go_sem, ivs, cT, sdP, kgP, rkP]

theorem castlings_any (w : World) : Calls Tryz.prog 75 #[] w fun e w' => e = .returned (.agg (ivs cT).toArray) ∧ Below w.heap.size w w' := by
  go_enter Tryz.func75, Tryz.ntmps75
  go_wp2
  refine bodyPost_ret (results_row rfl _ _ w.heap.size rfl (run_loadVar_row _ _ 107 107 _ (0, 0) _ (Vb.new w 107 (ivs cT)) Tryz.underlying107 rfl size106)) rfl ?_
  exact ⟨rfl, (Below.refl _ w).alloc (Nat.le_refl _) _⟩

theorem tab_and : ((List.range 16).all fun k => (List.range 4).all fun i => (bits BinOp.and IntKind.i64 (k : Int) (wrap64 (2 ^ i)) == 0) == !(bitB (k : Int) i)) = true := by decide +kernel
theorem bit_and {k i : Nat} (hk : k ≤ 15) (hi : i < 4) : (bits BinOp.and IntKind.i64 (k : Int) (wrap64 (2 ^ i)) == 0) = !(bitB (k : Int) i) :=
  beq_iff_eq.1 (allN (allN tab_and (show k < 16 by omega)) hi)
theorem kr_lt {i : Nat} (hi : i < 4) : kgP i < 64 ∧ rkP i < 64 ∧ sdP i ≤ 1 := by
  match i, hi with
  | 0, _ => decide
  | 1, _ => decide
  | 2, _ => decide
  | 3, _ => decide

def pci (b : Nat) (k : Int) : Int := if b = 0 then k else -k
theorem pci_6 (b : Nat) : pci b 6 = pc b 6 := rfl
theorem pci_4 (b : Nat) : pci b 4 = pc b 4 := rfl
theorem pci_1 (b : Nat) : pci b 1 = pc b 1 := rfl
theorem pieceOf_int (b : Nat) (k : Int) (h : 0 ≤ k ∧ k ≤ 6) (w : World) : Calls Tryz.prog 47 #[.int .i64 b, .int .i64 k] w fun e w' => e = .returned (.int .i64 (pci b k)) ∧ w' = w := by
  obtain ⟨n, rfl⟩ := Int.eq_ofNat_of_zero_le h.1
  exact pieceOf_any b n (by omega) w

end Go.Proofs.YtdmlamnonbmboaaGreatDoor

namespace Go.Proofs.YtdmlamnonbmboaaGreatDoor
open Go.RowKit Go.Shelf

attribute [local irreducible] cT sdP kgP rkP cas1 bitB pci pc

set_option maxRecDepth 100000 in
set_option maxHeartbeats 4000000 in
theorem mayCastle_any (a : Option Addr) (c : Nat) (Z : List Int) (t k e h f : Int) (w : World) (hz : Rd w a 64 c Z) :
    Calls Tryz.prog 40 #[.agg (chA a 64 c t k e h f)] w fun e w' => e = .returned (.bool (dB (Cas Z k))) ∧ Below w.heap.size w w' := by
  obtain ⟨w1, hw1⟩ : ∃ w1, w.alloc (.cells (chA a 64 c t k e h f) 24) = w1 := ⟨_, rfl⟩
  have B1 : Below w.heap.size w w1 := by rw [← hw1]; exact (Below.refl _ w).alloc (Nat.le_refl _) _
  have C1 : Ch w1 w.heap.size a 64 c t k e h f := by rw [← hw1]; exact Ch.new w a 64 c t k e h f
  have HB1 := hide B1
  have HC1 := hide C1
  have HZ1 := hide (hz.mono B1)
  obtain ⟨g0, g1, g2, g3, g4, g5⟩ := C1.cells
  clear hz B1 C1
  by_cases hk : 0 ≤ k ∧ k ≤ 15
  · obtain ⟨kn, rfl⟩ := Int.eq_ofNat_of_zero_le hk.1
    have hkn : kn ≤ 15 := by omega
    have HYES : Hid ((∀ i, i < 4 → cas1 Z kn i) → dB (Cas Z kn) = true) := hide (fun hh => dB_t ⟨by omega, by omega, hh⟩)
    have HNO : Hid (∀ i, i < 4 → ¬ cas1 Z kn i → dB (Cas Z kn) = false) := hide (fun i hi hh => dB_f (fun hc => hh (hc.2.2 i hi)))
    have HC1I : Hid (∀ i, cas1 Z kn i ↔ (bitB kn i = true → zg Z (kgP i) = pc (sdP i) 6 ∧ zg Z (rkP i) = pc (sdP i) 4)) := hide (fun i => by unfold cas1; exact Iff.rfl)
    have HBA := hide (fun i (hi : i < 4) => bit_and (k := kn) (i := i) hkn hi)
    obtain ⟨rr, hrr⟩ : ∃ rr, dB (Cas Z kn) = rr := ⟨_, rfl⟩
    rw [hrr] at HYES HNO ⊢
    clear hrr
    obtain ⟨zb, zo, rfl, hzc⟩ := HZ1.out.cells (by omega)
    have hcm := HZ1.out.max
    unfold maxLen at hcm
    have hcc := HZ1.out.cap
    have HZC : Hid (∀ i, i < 64 → w1.cell? ⟨zb, zo + i, none⟩ = some (.int .i64 (zg Z i))) := hide hzc
    have HPO := hide pieceOf_int
    clear hzc
    go_enter Tryz.func40, Tryz.ntmps40
    go_upto_region 1 with fail
    clear hw1
    go_wp2_with fail
    refine (castlings_any _).mono ?_
    rintro e w0 ⟨rfl, hb0⟩
    have HB0 : Hid (Below w1.heap.size w1 w0) := hide hb0
    clear hb0
    go_wp2_with fail
    have HG0 := hide g0
    have HG2 := hide g2
    clear g0 g1 g2 g3 g4 g5
    go_loopw [14] (fun v wr => ∃ i : Nat, v = .int .i64 i ∧ i ≤ 4 ∧ Hid (∀ j, j < i → cas1 Z kn j) ∧ Hid (Below w1.heap.size w1 wr)) (fun v _ => 4 - (intOf v).toNat)
    case atStart => exact ⟨0, rfl, by omega, hide (fun j hj => absurd hj (by omega)), HB0⟩
    case round =>
      obtain ⟨i, rfl, hi, hall, hbl⟩ := hrel
      by_cases hlt : i < 4
      · have hlt' : (i : Int) < 4 := by omega
        have hidx := run_cas i hlt
        obtain ⟨hki, hri, hsi⟩ := kr_lt hlt
        have HCI := hide (HC1I.out i)
        have HNI := hide (HNO.out i hlt)
        have hba := HBA.out i hlt
        have HNX : Hid (cas1 Z kn i → ∀ j, j < i + 1 → cas1 Z kn j) := hide (fun ho j hj => by
          by_cases e : j = i
          · subst e; exact ho
          · exact hall.out j (by omega))
        generalize sdP i = si at *
        generalize kgP i = ki at *
        generalize rkP i = ri at *
        obtain ⟨w2, hw2⟩ : ∃ w2, wr.alloc (.cells #[.int .i64 (si : Nat), .int .i64 (ki : Nat), .int .i64 (ri : Nat)] 106) = w2 := ⟨_, rfl⟩
        have B2 : Below w1.heap.size w1 w2 := by rw [← hw2]; exact hbl.out.alloc hbl.out.size _
        have D2 : Blk w2 wr.heap.size 106 [(si : Int), (ki : Int), (ri : Int)] := by rw [← hw2]; exact Blk.new wr 106 _ _ rfl
        have g2' := (B2.cell (p := ⟨w.heap.size, 2, none⟩) (World.block_lt_of_cell? w1 _ HG2.out)).trans HG2.out
        have HB2 := hide B2
        have HD2 := hide D2
        clear B2 D2 hbl
        go_upto_region 6 with fail
        clear hw2 hidx
        go_quiet (fail)
        have B3 : Below w1.heap.size w1 (w2.drewN nq) := HB2.out.trans (drewN_below _ _ _)
        have D3 : Blk (w2.drewN nq) wr.heap.size 106 [(si : Int), (ki : Int), (ri : Int)] := HD2.out.below (drewN_below _ _ _) HD2.out.lt
        have HB3 := hide B3
        have HD3 := hide D3
        clear B3 D3 HB2 HD2 g2'
        generalize w2.drewN nq = w3 at *
        generalize bits BinOp.and IntKind.i64 (kn : Int) (wrap64 (2 ^ i)) = bv at *
        clear hba
        cases hbb : bitB kn i with
        | false =>
          have HO1 := hide (HNX.out (HCI.out.2 (fun e => by rw [hbb] at e; exact absurd e (by simp))))
          clear HCI HNI HNX
          go_wp2_with fail
          exact ⟨⟨i + 1, by go_num, by omega, HO1, HB3⟩, by simp [intOf]; omega⟩
        | true =>
          have g0' := (HB3.out.cell (p := ⟨w.heap.size, 0, none⟩) (World.block_lt_of_cell? w1 _ HG0.out)).trans HG0.out
          have d0 := HD3.out.cell (i := 0) (by simp)
          have d1 := HD3.out.cell (i := 1) (by simp)
          have d2 := HD3.out.cell (i := 2) (by simp)
          have c1 := (HB3.out.cell (p := ⟨zb, zo + ki, none⟩) (World.block_lt_of_cell? w1 _ (HZC.out ki hki))).trans (HZC.out ki hki)
          have c2 := (HB3.out.cell (p := ⟨zb, zo + ri, none⟩) (World.block_lt_of_cell? w1 _ (HZC.out ri hri))).trans (HZC.out ri hri)
          have HCI' : Hid (cas1 Z kn i ↔ (zg Z ki = pc si 6 ∧ zg Z ri = pc si 4)) := hide ⟨fun h => HCI.out.1 h hbb, fun h => HCI.out.2 (fun _ => h)⟩
          clear HCI hbb
          have e6 := pci_6 si
          have e4 := pci_4 si
          obtain ⟨P6, hP6⟩ : ∃ P6, pc si 6 = P6 := ⟨_, rfl⟩
          obtain ⟨P4, hP4⟩ : ∃ P4, pc si 4 = P4 := ⟨_, rfl⟩
          rw [hP6] at HCI' e6
          rw [hP4] at HCI' e4
          clear hP6 hP4
          generalize zg Z ki = z1 at *
          generalize zg Z ri = z2 at *
          simp only [List.getD_cons_zero, List.getD_cons_succ] at d0 d1 d2
          by_cases h1 : z1 = P6
          · have b1 : (z1 != P6) = false := by simp [h1]
            by_cases h2 : z2 = P4
            · have b2 : (z2 != P4) = false := by simp [h2]
              have HO1 := hide (HNX.out (HCI'.out.2 ⟨h1, h2⟩))
              clear h1 h2 HCI' HNI HNX
              go_upto_region 7 with fail
              go_quiet (first | (go_at_call 47; exact Calls.quiet_of_same (HPO.out _ _ (by decide) _)))
              have HB4 : Hid (Below w1.heap.size w1 (w3.drewN nq)) := hide (HB3.out.trans (drewN_below _ _ _))
              generalize w3.drewN nq = w4 at *
              go_wp2_with fail
              exact ⟨⟨i + 1, by go_num, by omega, HO1, HB4⟩, by simp [intOf]; omega⟩
            · have b2 : (z2 != P4) = true := by simp [h2]
              have HF := hide (HNI.out (fun hh => h2 (HCI'.out.1 hh).2))
              clear h1 h2 HCI' HNI HNX
              go_upto_region 7 with fail
              go_quiet (first | (go_at_call 47; exact Calls.quiet_of_same (HPO.out _ _ (by decide) _)))
              have HB4 : Hid (Below w1.heap.size w1 (w3.drewN nq)) := hide (HB3.out.trans (drewN_below _ _ _))
              generalize w3.drewN nq = w4 at *
              go_wp2_with fail
              go_ret
              exact ⟨by rw [HF.out]; rfl, HB1.out.trans (HB4.out.mono HB1.out.size)⟩
          · have b1 : (z1 != P6) = true := by simp [h1]
            have HF := hide (HNI.out (fun hh => h1 (HCI'.out.1 hh).1))
            clear h1 HCI' HNI HNX
            go_upto_region 7 with fail
            go_quiet (first | (go_at_call 47; exact Calls.quiet_of_same (HPO.out _ _ (by decide) _)))
            have HB4 : Hid (Below w1.heap.size w1 (w3.drewN nq)) := hide (HB3.out.trans (drewN_below _ _ _))
            generalize w3.drewN nq = w4 at *
            go_wp2_with fail
            go_ret
            exact ⟨by rw [HF.out]; rfl, HB1.out.trans (HB4.out.mono HB1.out.size)⟩
      · obtain rfl : i = 4 := by omega
        have HF := hide (HYES.out hall.out)
        go_wp2_with fail
        go_ret
        exact ⟨by rw [HF.out]; rfl, HB1.out.trans (hbl.out.mono HB1.out.size)⟩
  · have hk2 : k < 0 ∨ 15 < k := by omega
    rw [show dB (Cas Z k) = false from dB_f (fun h => hk ⟨h.1, h.2.1⟩)]
    rcases hk2 with h | h
    · go_enter Tryz.func40, Tryz.ntmps40
      go_upto_region 1 with fail
      clear hw1
      go_wp2_with fail
      go_ret
      exact ⟨rfl, HB1.out⟩
    · have hk3 : ¬ k < 0 := by omega
      go_enter Tryz.func40, Tryz.ntmps40
      go_upto_region 1 with fail
      clear hw1
      go_wp2_with fail
      go_ret
      exact ⟨rfl, HB1.out⟩

end Go.Proofs.YtdmlamnonbmboaaGreatDoor

namespace Go.Proofs.YtdmlamnonbmboaaGreatDoor
open Go.RowKit Go.Shelf

theorem of_any (b : Nat) (k : Int) (h1 : -1000 ≤ k) (h2 : k ≤ 1000) (w : World) : Calls Tryz.prog 47 #[.int .i64 b, .int .i64 k] w fun e w' => e = .returned (.int .i64 (pci b k)) ∧ w' = w := by
  unfold pci
  by_cases hb : b = 0
  · subst hb
    go_enter Tryz.func47, Tryz.ntmps47
    go_wp2
    go_ret
    exact ⟨rfl, rfl⟩
  · have hb' : ((b : Int) == 0) = false := by simp; omega
    rw [if_neg hb]
    have hw : wrap64 (-(k : Int)) = -(k : Int) := by unfold wrap64; omega
    go_enter Tryz.func47, Tryz.ntmps47
    go_wp2
    go_ret
    exact ⟨by rfl, rfl⟩

theorem forward_any (b : Nat) (w : World) : Calls Tryz.prog 76 #[.int .i64 b] w fun e w' => e = .returned (.int .i64 (pci b 8)) ∧ w' = w := by
  have HO := hide (of_any b 8 (by omega) (by omega))
  generalize pci b 8 = x at *
  go_enter Tryz.func76, Tryz.ntmps76
  go_wp2_with (go_at_call 47; refine (HO.out _).mono ?_; rintro e w5 ⟨rfl, hw⟩; subst w5)
  go_ret
  exact ⟨rfl, rfl⟩

end Go.Proofs.YtdmlamnonbmboaaGreatDoor
