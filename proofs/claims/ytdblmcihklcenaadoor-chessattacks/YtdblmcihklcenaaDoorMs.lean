/-
  Chess: may pieces stand so: mayStand, walked. No conditions beyond those that each theorem bears.
-/
import Derived.Test.YtdblmcihklcenaaDoorMd
namespace Go.Proofs.YtdblmcihklcenaaDoor
open Go.RowKit Go.Shelf

/-- How often each piece stands on the first places. -/
def tmL (Z : List Int) (n : Nat) : List Int := (List.range 13).map fun j : Nat => ((cnt Z ((j : Int) - 6) n : Nat) : Int)
theorem tmL_len (Z : List Int) (n : Nat) : (tmL Z n).length = 13 := by simp [tmL]
theorem tmL_at (Z : List Int) (n : Nat) {j : Nat} (hj : j < 13) : (tmL Z n).getD j 0 = ((cnt Z ((j : Int) - 6) n : Nat) : Int) := by
  simp [tmL, List.getD, hj]
theorem tmL_zero (Z : List Int) : tmL Z 0 = List.replicate 13 0 := by
  simp [tmL, cnt_zero, List.range_succ]
theorem tmL_g (Z : List Int) (n : Nat) {j : Nat} (hj : j < 13) : (tmL Z n)[j]? = some ((cnt Z ((j : Int) - 6) n : Nat) : Int) := by
  simp [tmL, hj]
theorem tmL_succ {Z : List Int} {n x : Nat} (hx : 6 + zg Z n = (x : Int)) : (tmL Z n).set x ((tmL Z n).getD x 0 + 1) = tmL Z (n + 1) := by
  apply List.ext_getElem?
  intro j
  by_cases hj : j < 13
  · rw [tmL_g Z (n + 1) hj, cnt_succ]
    by_cases e : x = j
    · subst e
      rw [List.getElem?_set_self (by rw [tmL_len]; exact hj), tmL_at Z n hj, if_pos (by omega)]
      rfl
    · rw [List.getElem?_set_ne e, tmL_g Z n hj, if_neg (by omega)]
      rfl
  · rw [List.getElem?_eq_none (by rw [List.length_set, tmL_len]; omega), List.getElem?_eq_none (by rw [tmL_len]; omega)]

attribute [local irreducible] tmL cnt

set_option maxRecDepth 100000 in
set_option maxHeartbeats 8000000 in
theorem mayStand_any (a : Option Addr) (n c : Nat) (Z : List Int) (w : World) (h : Rd w a n c Z) :
    Calls Tryd.prog 27 #[.slice a n c] w fun e w' => e = .returned (.bool (dB (Std Z))) ∧ Below w.heap.size w w' := by
  have hcm := h.max
  unfold maxLen at hcm
  have hcc := h.cap
  have hlen := h.len
  by_cases hn : n = 64
  · subst hn
    have HNO : Hid (∀ i, i < 64 → ¬ okS Z i → dB (Std Z) = false) := hide (fun i hi ho => by
      exact dB_f (fun hs => ho (hs.2.1 i hi)))
    have HYE : Hid ((∀ i, i < 64 → okS Z i) → (dB (Std Z) = (decide (cnt Z (-6) 64 = 1) && decide (cnt Z 6 64 = 1)))) := hide (fun ho => by
      rw [Bool.eq_iff_iff]
      simp only [dB_iff, decide_eq_true_iff, Bool.and_eq_true]
      exact ⟨fun hs => ⟨hs.2.2.2, hs.2.2.1⟩, fun hs => ⟨hlen, ho, hs.2, hs.1⟩⟩)
    obtain ⟨rr, hrr⟩ : ∃ rr, dB (Std Z) = rr := ⟨_, rfl⟩
    rw [hrr] at HNO HYE ⊢
    clear hrr
    obtain ⟨bk, off, rfl, hc⟩ := h.cells (by omega)
    have HC : Hid (∀ i, i < 64 → w.cell? ⟨bk, off + i, none⟩ = some (.int .i64 (zg Z i))) := hide hc
    have HBK : Hid (bk < w.heap.size) := hide (World.block_lt_of_cell? w _ (hc 0 (by omega)))
    have HKI := hide kindOf_any
    obtain ⟨w1, hw1⟩ : ∃ w1, w.alloc (.cells #[.int .i64 0, .int .i64 0, .int .i64 0, .int .i64 0, .int .i64 0, .int .i64 0, .int .i64 0, .int .i64 0, .int .i64 0, .int .i64 0, .int .i64 0, .int .i64 0, .int .i64 0] 57) = w1 := ⟨_, rfl⟩
    have HB1 : Hid (Blk w1 w.heap.size 57 (tmL Z 0)) := hide (by rw [← hw1, tmL_zero]; exact Blk.new w 57 _ _ rfl)
    have HBL : Hid (Below w.heap.size w w1) := hide (by rw [← hw1]; exact (Below.refl _ w).alloc (Nat.le_refl _) _)
    clear h hc hlen
    go_enter Tryd.func27, Tryd.ntmps27
    go_upto_region 4 with fail
    clear hw1
    go_wp2_with fail
    go_loopw [11] (fun v wr => ∃ i : Nat, v = .int .i64 i ∧ i ≤ 64 ∧ Hid (∀ j, j < i → okS Z j) ∧ Hid (Blk wr w.heap.size 57 (tmL Z i)) ∧ Hid (Below w.heap.size w wr)) (fun v _ => 64 - (intOf v).toNat)
    case atStart => exact ⟨0, rfl, by omega, hide (fun j hj => absurd hj (by omega)), HB1, HBL⟩
    case round =>
      obtain ⟨i, rfl, hi, hok, hbk, hbl⟩ := hrel
      clear HB1 HBL
      by_cases hlt : i < 64
      · have hlt' : (i : Int) < 64 := by omega
        have cz := (hbl.out.cell (p := ⟨bk, off + i, none⟩) HBK.out).trans (HC.out i hlt)
        have HOK : Hid (okS Z i ↔ (-6 ≤ zg Z i ∧ zg Z i ≤ 6 ∧ ((zg Z i).natAbs = 1 → 8 ≤ i ∧ i < 56))) := hide Iff.rfl
        have HNI := hide (HNO.out i hlt)
        have HTS := hide (fun (x : Nat) (hx : 6 + zg Z i = (x : Int)) => tmL_succ (Z := Z) (n := i) hx)
        have HTA := hide (fun x (h13 : x < 13) => tmL_at Z i (j := x) h13)
        have HTL := hide (fun x => cnt_le Z x i)
        obtain ⟨z, hz⟩ : ∃ z, zg Z i = z := ⟨_, rfl⟩
        rw [hz] at cz HOK HTS
        clear hz
        by_cases h1 : -6 ≤ z
        · by_cases h2 : z ≤ 6
          · have HKZ := hide (HKI.out z h1 h2 wr)
            obtain ⟨x, hx⟩ : ∃ x : Nat, 6 + z = (x : Int) := ⟨(6 + z).toNat, by omega⟩
            have hx13 : x < 13 := by omega
            have ct := hbk.out.cell (i := x) (by rw [tmL_len]; exact hx13)
            have ft := hbk.out.frozen x
            rw [HTA.out x hx13] at ct
            have hcl := HTL.out ((x : Int) - 6)
            have HST := hide (HTS.out x hx)
            rw [HTA.out x hx13] at HST
            obtain ⟨cc, hcc2⟩ : ∃ cc, cnt Z ((x : Int) - 6) i = cc := ⟨_, rfl⟩
            rw [hcc2] at ct hcl HST
            have HBS : Hid (Blk (wr.setCell ⟨w.heap.size, x, none⟩ (.int .i64 ((cc : Int) + 1))) w.heap.size 57 (tmL Z (i + 1))) := hide (by rw [← HST.out]; exact hbk.out.set x _)
            have HBW : Hid (Below w.heap.size w (wr.setCell ⟨w.heap.size, x, none⟩ (.int .i64 ((cc : Int) + 1)))) := hide (hbl.out.setCell (p := ⟨w.heap.size, x, none⟩) (Nat.le_refl _) _)
            have HNX : Hid (okS Z i → ∀ j, j < i + 1 → okS Z j) := hide (fun ho j hj => by
              by_cases e : j = i
              · subst e; exact ho
              · exact hok.out j (by omega))
            clear hcc2 HTS HTA HTL HST hbk hok
            by_cases hp : z.natAbs = 1
            · by_cases h3 : i < 8
              · have HF := hide (HNI.out (fun ho => by have := ((HOK.out.1 ho).2.2 hp).1; omega))
                rw [hp] at HKZ
                clear hp HOK HNI HNX HBS HBW
                go_wp2_with (go_at_call 38; refine HKZ.out.mono ?_; rintro e w5 ⟨rfl, hw⟩; subst w5)
                go_ret
                exact ⟨by rw [HF.out]; rfl, hbl.out⟩
              · by_cases h4 : i < 56
                · have HO1 := hide (HNX.out (HOK.out.2 ⟨h1, h2, fun _ => ⟨by omega, h4⟩⟩))
                  rw [hp] at HKZ
                  clear hp HOK HNI HNX
                  go_wp2_with (go_at_call 38; refine HKZ.out.mono ?_; rintro e w5 ⟨rfl, hw⟩; subst w5)
                  exact ⟨⟨i + 1, by go_num, by omega, HO1, HBS, HBW⟩, by simp [intOf]; omega⟩
                · have HF := hide (HNI.out (fun ho => by have := ((HOK.out.1 ho).2.2 hp).2; omega))
                  rw [hp] at HKZ
                  clear hp HOK HNI HNX HBS HBW
                  go_wp2_with (go_at_call 38; refine HKZ.out.mono ?_; rintro e w5 ⟨rfl, hw⟩; subst w5)
                  go_ret
                  exact ⟨by rw [HF.out]; rfl, hbl.out⟩
            · have HO1 := hide (HNX.out (HOK.out.2 ⟨h1, h2, fun e => absurd e hp⟩))
              have hp' : (((z.natAbs : Nat) : Int) == 1) = false := by simp; omega
              obtain ⟨za, hza⟩ : ∃ za, z.natAbs = za := ⟨_, rfl⟩
              rw [hza] at HKZ hp'
              clear hp HOK HNI HNX hza
              go_wp2_with (go_at_call 38; refine HKZ.out.mono ?_; rintro e w5 ⟨rfl, hw⟩; subst w5)
              exact ⟨⟨i + 1, by go_num, by omega, HO1, HBS, HBW⟩, by simp [intOf]; omega⟩
          · have HF := hide (HNI.out (fun ho => h2 (HOK.out.1 ho).2.1))
            clear HOK HNI HTS HTA HTL
            go_wp2_with fail
            go_ret
            exact ⟨by rw [HF.out]; rfl, hbl.out⟩
        · have HF := hide (HNI.out (fun ho => h1 (HOK.out.1 ho).1))
          clear HOK HNI HTS HTA HTL
          go_wp2_with fail
          go_ret
          exact ⟨by rw [HF.out]; rfl, hbl.out⟩
      · obtain rfl : i = 64 := by omega
        have HY := hide (HYE.out hok.out)
        have c0 := hbk.out.cell (i := 0) (by rw [tmL_len]; omega)
        have c12 := hbk.out.cell (i := 12) (by rw [tmL_len]; omega)
        rw [tmL_at Z 64 (by omega)] at c0 c12
        have e0 : (((0 : Nat) : Int) - 6) = -6 := by omega
        have e12 : (((12 : Nat) : Int) - 6) = 6 := by omega
        rw [e0] at c0
        rw [e12] at c12
        generalize cnt Z (-6) 64 = n0 at *
        generalize cnt Z 6 64 = n1 at *
        by_cases hn0 : n0 = 1
        · subst hn0
          have q1 : ((n1 : Int) == 1) = decide (n1 = 1) := by
            by_cases q : n1 = 1
            · subst q; rfl
            · rw [decide_eq_false q]; simp; omega
          go_wp2_with fail
          go_ret
          exact ⟨by rw [HY.out, ← q1]; simp, hbl.out⟩
        · have q0 : ((n0 : Int) == 1) = false := by simp; omega
          rw [decide_eq_false hn0, Bool.false_and] at HY
          go_wp2_with fail
          go_ret
          exact ⟨by rw [HY.out]; rfl, hbl.out⟩
  · rw [show dB (Std Z) = false from dB_f (fun hs => hn (by have := hs.1; omega))]
    have hnb : ((n : Int) != 64) = true := by simp; omega
    clear h hlen
    go_enter Tryd.func27, Tryd.ntmps27
    go_wp2_with fail
    go_ret
    exact ⟨rfl, Below.refl _ _⟩

end Go.Proofs.YtdblmcihklcenaaDoor
