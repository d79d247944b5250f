/-
  What comes of a row of moves. No conditions beyond those that each theorem bears.
-/
import Derived.Test.YticalbpohhpjaaaDoorLe
import Derived.Test.YticalbpohhpjaaaDoorMv
namespace Go.Proofs.YticalbpohhpjaaaDoor
open Go.RowKit

theorem Rd.keepsN {X : Nat → Prop} {w w' : World} {a n c zs} (h : Rd w a n c zs) (hb : Keeps X w w') (hX : 0 < n → ∀ b off, a = some ⟨b, off, none⟩ → ¬ X b) : Rd w' a n c zs := by
  refine ⟨h.len, h.cap, h.max, h.nil, fun hn => ?_⟩
  obtain ⟨b, off, rfl, hc⟩ := h.cells hn
  exact ⟨b, off, rfl, fun i hi => hb.cell (hc i hi) (hX hn b off rfl)⟩

theorem drop_one (l : List Int) (k : Nat) (h : k < l.length) : l.drop k = l.getD k 0 :: l.drop (k + 1) := by
  rw [List.drop_eq_getElem_cons h]; simp [List.getD, h]

theorem results_g2 {fn : Func} {t u x : Tmp} (h : fn.results = #[.cell t 24, .tmp u, .tmp x]) (tmps : Array Value) (w : World) (b : Nat) (hb : tmps.getD t undef = .pointer (some ⟨b, 0, none⟩)) {W H : Int} {ad : Option Addr} {n c : Nat} (hr : Gd w b W H ad n c) {v v' : Value} (hv : tmps.getD u undef = v) (hv' : tmps.getD x undef = v') :
    (results fn tmps).run Tryd.prog w = .ok (.tuple #[.agg (gdA W H ad n c), v, v']) w := by
  have hb' : tmps[t]?.getD undef = .pointer (some ⟨b, 0, none⟩) := by simpa using hb
  have h1 : tmps[u]?.getD undef = v := by simpa using hv
  have h2 : tmps[x]?.getD undef = v' := by simpa using hv'
  have hl := run_loadVar_row (P := Tryd.prog) w b 24 24 (gdA W H ad n c) (0, 0) _ hr Tryd.underlying24 rfl size24
  simp [results, h, hb', h1, h2, asAddr, hl]

/-- Can a stone move so? -/
def canD (W H g : Nat) (d : Int) : Bool := decide (0 ≤ d ∧ d < 4) && cmv W H g d.toNat

/-- What comes of a row of moves: the row that is read, how many were made, whether all. -/
def runA (W H : Nat) (Z : List Int) (g k : Nat) : List Int → List Int × Nat × Bool
  | [] => (Z, k, true)
  | d :: l => if canD W H g d then runA W H (mvl Z g (frm W H g d.toNat).toNat) (frm W H g d.toNat).toNat (k + 1) l else (Z, k, false)

theorem runA_stop {W H : Nat} {Z : List Int} {g k : Nat} {d : Int} {l : List Int} (h : canD W H g d = false) : runA W H Z g k (d :: l) = (Z, k, false) := by
  unfold runA; rw [h]; rfl

theorem runA_go {W H : Nat} {Z : List Int} {g k : Nat} {d : Int} {l : List Int} (h : canD W H g d = true) : runA W H Z g k (d :: l) = runA W H (mvl Z g (frm W H g d.toNat).toNat) (frm W H g d.toNat).toNat (k + 1) l := by
  rw [runA, if_pos h]

/-- The error that is told. -/
def errR (ok : Bool) : Int := if ok = true then 0 else 8

theorem mvl_length (Z : List Int) (g q : Nat) : (mvl Z g q).length = Z.length := by simp [mvl]

theorem run_le (W H : Nat) (l : List Int) : ∀ (Z : List Int) (g k : Nat), (runA W H Z g k l).2.1 ≤ k + l.length := by
  induction l with
  | nil => intro Z g k; simp [runA]
  | cons d l ih =>
    intro Z g k
    unfold runA
    split
    · have := ih (mvl Z g (frm W H g d.toNat).toNat) (frm W H g d.toNat).toNat (k + 1)
      simp only [List.length_cons]
      omega
    · simp

theorem frm_nat {W H g d : Nat} (h : cmv W H g d = true) : ∃ q : Nat, frm W H g d = q ∧ q < W * H := stq_nat (of_decide_eq_true h)

set_option maxHeartbeats 2000000 in
theorem Do_no (W H : Int) (a la : Option Addr) (n c ln lc : Nat) (zs : List Int) (w : World) (h : Rd w a n c zs) (hm : mayB W H zs = false) :
    Calls Tryd.prog 9 #[.agg (gdA W H a n c), .slice la ln lc] w fun e w' => e = .returned (.tuple #[.agg (gdA 0 0 none 0 0), .int .i64 0, .int .i64 12]) ∧ Below w.heap.size w w' := by
  obtain ⟨w1, hw1⟩ : ∃ w1, (w.alloc (.cells (gdA W H a n c) 24)).alloc (.cells (gdA 0 0 none 0 0) 24) = w1 := ⟨_, rfl⟩
  have B1 : Below w.heap.size w w1 := by rw [← hw1]; exact ((Below.refl _ _).alloc (Nat.le_refl _) _).alloc (by simp) _
  have CALL := hide (May_any W H a n c zs w1 (h.mono B1))
  rw [hm] at CALL
  have HB := hide B1
  have K1 : Gd w1 w.heap.size W H a n c := by rw [← hw1]; exact (Gd.new _ _ _ _ _ _).old _
  have K2 : Gd w1 (w.heap.size + 1) 0 0 none 0 0 := by
    rw [← hw1]
    have := Gd.new (w.alloc (.cells (gdA W H a n c) 24)) 0 0 none 0 0
    rw [World.size_alloc] at this
    exact this
  have hs1 : w1.heap.size = w.heap.size + 1 + 1 := by rw [← hw1]; simp
  clear h B1 hm
  go_enter Tryd.func9, Tryd.ntmps9
  go_upto_region 1 with fail
  clear hw1
  go_wp2_with (refine wpList_load_gd rfl (.tmp 2) rfl w.heap.size rfl K1 ?_)
  refine CALL.out.mono ?_
  rintro e w2 ⟨rfl, hb2⟩
  have HB2 := hide (HB.out.trans (hb2.mono HB.out.size))
  have K22 := K2.below hb2 (by omega)
  clear K1 K2 HB CALL hb2
  go_wp2_with (refine wpList_store_gd (W := 0) (H := 0) (ad := none) (n := 0) (c := 0) rfl (.tmp 4) (.tmp 13) rfl (w.heap.size + 1) rfl rfl K22 ?_; intro w6 k6 kk6)
  refine bodyPost_ret (results_g2 rfl _ _ (w.heap.size + 1) rfl k6 rfl rfl) rfl ⟨rfl, ?_⟩
  exact HB2.out.trans ((kk6.mono (Y := fun q => w.heap.size ≤ q) (fun q _ e => by omega)).below (B := w.heap.size) HB2.out.size (fun q hq e => by omega))

set_option maxHeartbeats 8000000 in
theorem Do_yes (W H : Nat) (a la : Option Addr) (n c ln lc g : Nat) (zs ls : List Int) (w : World) (hT : Tab w) (h : Rd w a n c zs) (hL : Rd w la ln lc ls) (hm : mayS W H zs) (hu : 2 ≤ W ∧ W ≤ 5) (hv : 2 ≤ H ∧ H ≤ 5) (hN : W * H = zs.length) (hg : ix zs 0 = g) (hgn : g < n) :
    Calls Tryd.prog 9 #[.agg (gdA W H a n c), .slice la ln lc] w fun e w' => ∃ cb c', e = .returned (.tuple #[.agg (gdA W H (some ⟨cb, 0, none⟩) n c'), .int .i64 ((runA W H zs g 0 ls).2.1 : Nat), .int .i64 (errR (runA W H zs g 0 ls).2.2)]) ∧ Bw w' cb n c' (runA W H zs g 0 ls).1 ∧ w.heap.size ≤ cb ∧ Below w.heap.size w w' := by
  have hlen := h.len
  have hb := len_bd hu hv (hN.trans hlen)
  have hll := hL.len
  have hlcap := hL.cap
  have hlmax := hL.max
  unfold maxLen at hlmax
  obtain ⟨w1, hw1⟩ : ∃ w1, (w.alloc (.cells (gdA W H a n c) 24)).alloc (.cells (gdA 0 0 none 0 0) 24) = w1 := ⟨_, rfl⟩
  have B1 : Below w.heap.size w w1 := by rw [← hw1]; exact ((Below.refl _ _).alloc (Nat.le_refl _) _).alloc (by simp) _
  have CALL := hide (May_any W H a n c zs w1 (h.mono B1))
  rw [mayB_yes hm] at CALL
  have HB := hide B1
  have K1 : Gd w1 w.heap.size W H a n c := by rw [← hw1]; exact (Gd.new _ _ _ _ _ _).old _
  have K2 : Gd w1 (w.heap.size + 1) 0 0 none 0 0 := by
    rw [← hw1]
    have := Gd.new (w.alloc (.cells (gdA W H a n c) 24)) 0 0 none 0 0
    rw [World.size_alloc] at this
    exact this
  have hs1 : w1.heap.size = w.heap.size + 1 + 1 := by rw [← hw1]; simp
  have HLB : Hid (0 < ln → ∀ b off, la = some ⟨b, off, none⟩ → b < w.heap.size) := hide (fun h0 b off e => by
    obtain ⟨b', off', e', hc⟩ := hL.cells h0
    rw [e] at e'
    cases e'
    exact World.block_lt_of_cell? w _ (hc 0 h0))
  have HH := hide (h.mono B1)
  have HLL := hide (hL.mono B1)
  have HT := hide (hT.mono B1)
  clear h B1 hm hL hT
  go_enter Tryd.func9, Tryd.ntmps9
  go_upto_region 1 with fail
  clear hw1
  go_wp2_with (refine wpList_load_gd rfl (.tmp 2) rfl w.heap.size rfl K1 ?_)
  refine CALL.out.mono ?_
  rintro e w2 ⟨rfl, hb2⟩
  have K12 := K1.below hb2 (by omega)
  have K22 := K2.below hb2 (by omega)
  have HB2 := hide (HB.out.trans (hb2.mono HB.out.size))
  have HR2 := hide (HH.out.mono hb2)
  have HL2 := hide (HLL.out.mono hb2)
  have HT2 := hide (HT.out.mono hb2)
  have hs2 : w.heap.size + 1 + 1 ≤ w2.heap.size := by have := hb2.size; omega
  clear K1 K2 HB CALL hb2 HH HLL HT hs1
  go_wp2_with (refine wpList_load_gd rfl (.tmp 2) rfl w.heap.size rfl K12 ?_)
  refine (trayOf_any W H a n c zs g w2 HR2.out (by omega) hg).mono ?_
  rintro e w3 ⟨cb, c', rfl, hBw, hcb, hb3⟩
  have K23 := K22.below hb3 (by omega)
  have HB3 := hide (HB2.out.trans (hb3.mono HB2.out.size))
  have HL3 := hide (HL2.out.mono hb3)
  have HT3 := hide (HT2.out.mono hb3)
  have HW3 := hide hBw
  have hs3 := hb3.size
  clear K12 K22 HR2 hb3 hBw HB2 HL2 HT2
  go_upto_region 4 with fail
  obtain ⟨w4, hw4⟩ : ∃ w4, w3.alloc (Obj.cells (trA W H (some ⟨cb, 0, none⟩) n c' g) 55) = w4 := ⟨_, rfl⟩
  rw [hw4]
  have T4 : Ty w4 w3.heap.size W H (some ⟨cb, 0, none⟩) n c' g := by rw [← hw4]; exact Ty.new _ _ _ _ _ _ _
  have B34 : Below w3.heap.size w3 w4 := by rw [← hw4]; exact (Below.refl _ w3).alloc (Nat.le_refl _) _
  have HB4 := hide (HB3.out.trans (B34.mono HB3.out.size))
  have HW4 := hide (HW3.out.mono B34)
  have HL4 := hide (HL3.out.mono B34)
  have HT4 := hide (HT3.out.mono B34)
  have HK24 := hide (K23.below B34 (by omega))
  have hcb3 := HW3.out.lt
  generalize hbt : w3.heap.size = bt at *
  have HTY4 := hide T4
  clear hw4 HB3 HW3 B34 hbt HL3 HT3 K23 T4
  generalize hRR : runA W H zs g 0 ls = RR
  have HRR := hide hRR
  clear hRR
  go_wp2_with fail
  go_loopw [18] (fun i wr => ∃ (k q : Nat) (Z : List Int), k ≤ ln ∧ i = .int .i64 k ∧ q < n ∧ Hid (runA W H Z q k (ls.drop k) = RR) ∧ Hid (Ty wr bt W H (some ⟨cb, 0, none⟩) n c' q) ∧ Hid (Bw wr cb n c' Z) ∧ Hid (Keeps (fun j => j = bt ∨ j = cb) w4 wr)) (fun i _ => ln - (intOf i).toNat)
  case atStart => exact ⟨0, g, zs, by omega, rfl, hgn, hide (by rw [List.drop_zero]; exact HRR.out), HTY4, HW4, hide (Keeps.refl _ _)⟩
  case round =>
    obtain ⟨k, q, Z, hk, rfl, hq, HR, HTY, HW, HK⟩ := hrel
    have HGD := hide (HK24.out.keeps HK.out (by omega))
    have HBr := hide (HB4.out.trans ((HK.out.mono (Y := fun j => w.heap.size ≤ j) (fun j _ h => by omega)).below HB4.out.size (fun j hj e => by omega)))
    by_cases hkl : k < ln
    · have hlt' : (k : Int) < (ln : Int) := by omega
      have HLr := hide (HL4.out.keepsN HK.out (fun h0 b off e => by have := HLB.out h0 b off e; omega))
      have HTr := hide (HT4.out.keeps HK.out (by omega))
      obtain ⟨lb, loff, rfl, hlc⟩ := HLr.out.cells (by omega)
      have hck := hlc k hkl
      rw [drop_one ls k (by omega)] at HR
      clear hlc
      generalize ls.getD k 0 = d at *
      by_cases hd : 0 ≤ d ∧ d < 4
      rotate_left
      · have hcn : canD W H q d = false := by unfold canD; rw [decide_eq_false hd]; rfl
        have HE := hide ((runA_stop hcn).symm.trans HR.out)
        clear HR hcn
        go_wp2_with fail
        refine (move_not bt d wr (by omega)).mono ?_
        rintro e wx ⟨rfl, hwx⟩
        subst wx
        have HGK := HGD.out
        have HTK := HTY.out.range0
        go_wp2_with (first
          | refine wpList_load_mid rfl 24 _ rfl bt 0 rfl [.int .i64 (W : Nat), .int .i64 (H : Nat), .slice (some ⟨cb, 0, none⟩) n c'] _ HTK Tryd.underlying24 rfl size24 ?_
          | (refine wpList_store_gd rfl (.tmp 4) (.tmp 27) rfl (w.heap.size + 1) rfl rfl HGK ?_; intro w6 k6 kk6))
        refine bodyPost_ret (results_g2 rfl _ _ (w.heap.size + 1) rfl k6 rfl rfl) rfl ⟨cb, c', ?_, ?_, by omega, ?_⟩
        · rw [HRR.out, ← HE.out]; rfl
        · rw [HRR.out, ← HE.out]; exact HW.out.keeps kk6 (by omega)
        · exact HBr.out.trans ((kk6.mono (Y := fun q => w.heap.size ≤ q) (fun q _ e => by omega)).below (B := w.heap.size) HBr.out.size (fun q hq e => by omega))
      obtain ⟨m, rfl⟩ := Int.eq_ofNat_of_zero_le hd.1
      have HMV := hide (move_any bt W H q m cb n c' Z wr HTr.out HTY.out HW.out hu hv (by omega) hq (by omega))
      have hcd : canD W H q (m : Int) = cmv W H q m := by unfold canD; rw [decide_eq_true hd]; rfl
      by_cases hc : cmv W H q m = true
      · have HE := hide ((runA_go (by rw [hcd]; exact hc)).symm.trans HR.out)
        obtain ⟨r, hr, hrn⟩ := frm_nat hc
        have HFR := hide hr
        rw [hc] at HMV
        clear HR hcd hr
        go_wp2_with fail
        refine HMV.out.mono ?_
        rintro e wx ⟨rfl, hkx, -, hyes⟩
        obtain ⟨ty, bw⟩ := hyes trivial r HFR.out
        have HTY2 := hide ty
        have HBW2 := hide bw
        have HK2 := hide (HK.out.trans (hkx))
        clear hyes ty bw hkx HMV hck
        have HE2 := HE.out
        rw [show (frm W H q ((m : Int)).toNat).toNat = r by rw [Int.toNat_natCast, HFR.out, Int.toNat_natCast]] at HE2
        have HE3 := hide HE2
        clear HE HE2
        go_wp2_with fail
        go_roundw
        case rel => exact ⟨k + 1, r, mvl Z q r, by omega, by go_num, by omega, HE3, HTY2, HBW2, HK2⟩
        case measure => simp [intOf]; omega
      · have hc' : cmv W H q m = false := by simpa using hc
        have HE := hide ((runA_stop (by rw [hcd]; exact hc')).symm.trans HR.out)
        rw [hc'] at HMV
        clear HR hcd hc
        go_wp2_with fail
        refine HMV.out.mono ?_
        rintro e wx ⟨rfl, hkx, hno, -⟩
        obtain ⟨ty, bw⟩ := hno trivial
        have HGK := HGD.out.keeps hkx (by omega)
        have HTK := ty.range0
        have HBW2 := hide bw
        have HB2 := hide (HBr.out.trans ((hkx.mono (Y := fun q => w.heap.size ≤ q) (fun q _ e => by omega)).below (B := w.heap.size) HBr.out.size (fun q hq e => by omega)))
        clear hno bw hkx HMV hck
        go_wp2_with (first
          | refine wpList_load_mid rfl 24 _ rfl bt 0 rfl [.int .i64 (W : Nat), .int .i64 (H : Nat), .slice (some ⟨cb, 0, none⟩) n c'] _ HTK Tryd.underlying24 rfl size24 ?_
          | (refine wpList_store_gd rfl (.tmp 4) (.tmp 27) rfl (w.heap.size + 1) rfl rfl HGK ?_; intro w6 k6 kk6))
        refine bodyPost_ret (results_g2 rfl _ _ (w.heap.size + 1) rfl k6 rfl rfl) rfl ⟨cb, c', ?_, ?_, by omega, ?_⟩
        · rw [HRR.out, ← HE.out]; rfl
        · rw [HRR.out, ← HE.out]; exact HBW2.out.keeps kk6 (by omega)
        · exact HB2.out.trans ((kk6.mono (Y := fun q => w.heap.size ≤ q) (fun q _ e => by omega)).below (B := w.heap.size) HB2.out.size (fun q hq e => by omega))
    · obtain rfl : k = ln := by omega
      have hlt' : ¬ (k : Int) < (k : Int) := by omega
      have hRJ := HR.out
      rw [List.drop_of_length_le (by omega)] at hRJ
      have HE : Hid ((Z, k, true) = RR) := hide (by rw [← hRJ]; unfold runA; rfl)
      clear HR hRJ
      have HGK := HGD.out
      have HTK := HTY.out.range0
      go_wp2_with (first
        | refine wpList_load_mid rfl 24 _ rfl bt 0 rfl [.int .i64 (W : Nat), .int .i64 (H : Nat), .slice (some ⟨cb, 0, none⟩) n c'] _ HTK Tryd.underlying24 rfl size24 ?_
        | (refine wpList_store_gd rfl (.tmp 4) (.tmp 31) rfl (w.heap.size + 1) rfl rfl HGK ?_; intro w6 k6 kk6))
      refine bodyPost_ret (results_g2 rfl _ _ (w.heap.size + 1) rfl k6 rfl rfl) rfl ⟨cb, c', ?_, ?_, by omega, ?_⟩
      · rw [HRR.out, ← HE.out]; rfl
      · rw [HRR.out, ← HE.out]; exact HW.out.keeps kk6 (by omega)
      · exact HBr.out.trans ((kk6.mono (Y := fun q => w.heap.size ≤ q) (fun q _ e => by omega)).below (B := w.heap.size) HBr.out.size (fun q hq e => by omega))

end Go.Proofs.YticalbpohhpjaaaDoor
