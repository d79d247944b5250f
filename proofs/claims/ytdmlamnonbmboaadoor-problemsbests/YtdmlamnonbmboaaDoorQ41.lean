/-
  Chess: what the document says that a move makes of a position: walked. No conditions beyond those that each theorem bears.
-/
import Derived.Test.YtdmlamnonbmboaaDoorQ39
import Derived.Test.YtdmlamnonbmboaaDoorQ40
import Derived.Test.YtdmlamnonbmboaaDoorQ36
import Derived.Deep.Cut
import Derived.BigRegion
import Derived.BigQuiet
namespace Go.Proofs.YtdmlamnonbmboaaDoor
open Go.RowKit Go.Shelf

theorem wrap_64 (x : Int) : IntKind.i64.wrap x = wrap64 x := by rw [IntKind.wrap_i64]; unfold wrap64; omega

def eR (Z : List Int) (x q : Nat) : Int := if (zg Z x).natAbs = 1 ∧ ((q : Int) - (x : Int)).natAbs = 16 then (((x + q) / 2 : Nat) : Int) else -1

/-- A position that is written to: qb: its block, rb: its places'. -/
structure DnP (w1 : World) (qb rb c' : Nat) (L : List Int) (T K E H F : Int) (W : World) : Prop where
  q : Ch W qb (some ⟨rb, 0, none⟩) 64 c' T K E H F
  r : Mw W rb L
  b : Below w1.heap.size w1 W

section
variable {w1 : World} {qb rb c' : Nat} {L : List Int} {T K E H F : Int} {W : World}
theorem DnP.setR (h : DnP w1 qb rb c' L T K E H F W) (hr : w1.heap.size ≤ rb) (hne : qb ≠ rb) (i : Nat) (v : Int) : DnP w1 qb rb c' (L.set i v) T K E H F (W.setCell ⟨rb, i, none⟩ (.int .i64 v)) :=
  ⟨h.q.other hne i _, h.r.set i v, h.b.setCell (p := ⟨rb, i, none⟩) hr _⟩
theorem DnP.setT (h : DnP w1 qb rb c' L T K E H F W) (hq : w1.heap.size ≤ qb) (hne : qb ≠ rb) (v : Int) : DnP w1 qb rb c' L v K E H F (W.setCell ⟨qb, 1, none⟩ (.int .i64 v)) :=
  ⟨h.q.setT v, h.r.keeps (Keeps.set1 W qb 1 _) (fun e => hne e.symm), h.b.setCell (p := ⟨qb, 1, none⟩) hq _⟩
theorem DnP.setK (h : DnP w1 qb rb c' L T K E H F W) (hq : w1.heap.size ≤ qb) (hne : qb ≠ rb) (v : Int) : DnP w1 qb rb c' L T v E H F (W.setCell ⟨qb, 2, none⟩ (.int .i64 v)) :=
  ⟨h.q.setK v, h.r.keeps (Keeps.set1 W qb 2 _) (fun e => hne e.symm), h.b.setCell (p := ⟨qb, 2, none⟩) hq _⟩
theorem DnP.setE (h : DnP w1 qb rb c' L T K E H F W) (hq : w1.heap.size ≤ qb) (hne : qb ≠ rb) (v : Int) : DnP w1 qb rb c' L T K v H F (W.setCell ⟨qb, 3, none⟩ (.int .i64 v)) :=
  ⟨h.q.setE v, h.r.keeps (Keeps.set1 W qb 3 _) (fun e => hne e.symm), h.b.setCell (p := ⟨qb, 3, none⟩) hq _⟩
theorem DnP.setH (h : DnP w1 qb rb c' L T K E H F W) (hq : w1.heap.size ≤ qb) (hne : qb ≠ rb) (v : Int) : DnP w1 qb rb c' L T K E v F (W.setCell ⟨qb, 4, none⟩ (.int .i64 v)) :=
  ⟨h.q.setH v, h.r.keeps (Keeps.set1 W qb 4 _) (fun e => hne e.symm), h.b.setCell (p := ⟨qb, 4, none⟩) hq _⟩
theorem DnP.setF (h : DnP w1 qb rb c' L T K E H F W) (hq : w1.heap.size ≤ qb) (hne : qb ≠ rb) (v : Int) : DnP w1 qb rb c' L T K E H v (W.setCell ⟨qb, 5, none⟩ (.int .i64 v)) :=
  ⟨h.q.setF v, h.r.keeps (Keeps.set1 W qb 5 _) (fun e => hne e.symm), h.b.setCell (p := ⟨qb, 5, none⟩) hq _⟩
theorem DnP.mono {W' : World} (h : DnP w1 qb rb c' L T K E H F W) (hb : Below W.heap.size W W') : DnP w1 qb rb c' L T K E H F W' :=
  ⟨h.q.below hb h.q.lt, h.r.mono hb, h.b.trans (hb.mono h.b.size)⟩
end

theorem Keeps.of_below_no {a b : World} (h : Below a.heap.size a b) : Keeps (fun _ => False) a b := Keeps.of_all h
theorem kRs_zero (L : Nat → Bool) (k : Nat) : kRs L k 0 = k := rfl
theorem kRs_succ (L : Nat → Bool) (k i : Nat) : kRs L k (i + 1) = if L i = true ∧ (kRs L k i).testBit i = true then kRs L k i - 2 ^ i else kRs L k i := rfl
theorem lsR_eq (Z : List Int) (t f q i : Nat) : lsR Z t f q i = (f == rkP i || q == rkP i || ((zg Z f).natAbs == 6 && i / 2 == t)) := rfl
theorem bit_sub {a i : Nat} (ha : a < 16) (hi : i < 4) (hb : a.testBit i = true) : IntKind.i64.wrap ((a : Int) - wrap64 (2 ^ i)) = ((a - 2 ^ i : Nat) : Int) := by
  have h2 : 2 ^ i ≤ a := Nat.ge_two_pow_of_testBit hb
  rw [IntKind.wrap_i64]
  unfold wrap64
  rcases (show i = 0 ∨ i = 1 ∨ i = 2 ∨ i = 3 by omega) with rfl | rfl | rfl | rfl <;> simp at h2 ⊢ <;> omega

attribute [local irreducible] mv1 mv2 mv3 dnZ kRs lsR eR hfN fuN

set_option maxRecDepth 100000 in
set_option maxHeartbeats 16000000 in
theorem MoveDone_any (a : Option Addr) (c : Nat) (Z : List Int) (t k : Nat) (e : Int) (h f : Nat) (hz : Pz Z) (ht : t ≤ 1) (hk : k < 16) (hh : h ≤ 999) (hf : f ≤ 999) (x q n : Nat) (hx : x < 64) (hq : q < 64) (hn6 : n ≤ 6)
    (hbk : tkB Z e x q = true → bk t q < 64 ∧ (q : Int) - pci t 8 = ((bk t q : Nat) : Int)) (w : World) (hR : Rd w a 64 c Z) :
    Calls Tryd.prog 30 #[.agg (chA a 64 c (t : Nat) (k : Nat) e (h : Nat) (f : Nat)), .agg #[.int .i64 (x : Nat), .int .i64 (q : Nat), .int .i64 (n : Nat)]] w fun r w' => ∃ rb c', r = .returned (.agg (chA (some ⟨rb, 0, none⟩) 64 c' ((1 - t : Nat) : Int) ((kR Z t k x q : Nat) : Int) (eR Z x q) ((hfN Z h x q : Nat) : Int) ((fuN t f : Nat) : Int))) ∧ Mw w' rb (dnZ Z t e x q n) ∧ w.heap.size ≤ rb ∧ 64 ≤ c' ∧ c' ≤ maxLen ∧ Below w.heap.size w w' := by
  obtain ⟨T, hT⟩ : ∃ T : Int, ((t : Nat) : Int) = T := ⟨_, rfl⟩
  obtain ⟨s, hs⟩ : ∃ s : Int, 1 - 2 * T = s := ⟨_, rfl⟩
  have hs1 : s = 1 ∨ s = -1 := by omega
  have HSS := hide (SideSign_any T (by omega))
  rw [hs] at HSS
  obtain ⟨g, hg⟩ : ∃ g, w.heap.size = g := ⟨_, rfl⟩
  rw [hT]
  obtain ⟨w1, hw1⟩ : ∃ w1, ((w.alloc (.cells (chA a 64 c T (k : Nat) e (h : Nat) (f : Nat)) 24)).alloc (.cells #[.int .i64 (x : Nat), .int .i64 (q : Nat), .int .i64 (n : Nat)] 42)).alloc (.cells (chA none 0 0 0 0 0 0 0) 24) = w1 := ⟨_, rfl⟩
  have B1 : Below w.heap.size w w1 := by rw [← hw1]; exact (((Below.refl _ w).alloc (Nat.le_refl _) _).alloc (by simp) _).alloc (by simp; omega) _
  have s1 : w1.heap.size = g + 3 := by rw [← hw1, ← hg]; simp
  have C1 : Ch w1 g a 64 c T (k : Nat) e (h : Nat) (f : Nat) := by rw [← hw1, ← hg]; exact ((Ch.new w a 64 c _ _ _ _ _).old _).old _
  have M1 : Vb w1 (g + 1) 42 [.int .i64 (x : Nat), .int .i64 (q : Nat), .int .i64 (n : Nat)] := by
    rw [← hw1, ← hg]
    have := (Vb.new (w.alloc (.cells (chA a 64 c T (k : Nat) e (h : Nat) (f : Nat)) 24)) 42 [.int .i64 (x : Nat), .int .i64 (q : Nat), .int .i64 (n : Nat)]).old (.cells (chA none 0 0 0 0 0 0 0) 24)
    rw [World.size_alloc] at this
    exact this
  have R1 : Ch w1 (g + 2) none 0 0 0 0 0 0 0 := by
    rw [← hw1, ← hg]
    have := Ch.new ((w.alloc (.cells (chA a 64 c T (k : Nat) e (h : Nat) (f : Nat)) 24)).alloc (.cells #[.int .i64 (x : Nat), .int .i64 (q : Nat), .int .i64 (n : Nat)] 42)) none 0 0 0 0 0 0 0
    rw [World.size_alloc, World.size_alloc] at this
    exact this
  have hR1 := hR.mono B1
  have hcm := hR1.max
  unfold maxLen at hcm
  have hcc := hR1.cap
  obtain ⟨pb, po, rfl, hcl⟩ := hR1.cells (by omega)
  have HCO := hide (ChessOf_own _ c Z T (k : Nat) e (h : Nat) (f : Nat) w1 hR1)
  have HP : Hid (∀ W, Below w1.heap.size w1 W → Ch W g (some ⟨pb, po, none⟩) 64 c T (k : Nat) e (h : Nat) (f : Nat)) := hide (fun W hb => C1.below hb (by omega))
  have HM : Hid (∀ W, Below w1.heap.size w1 W → Vb W (g + 1) 42 [.int .i64 (x : Nat), .int .i64 (q : Nat), .int .i64 (n : Nat)]) := hide (fun W hb => M1.below hb (by omega))
  have HR2 : Hid (∀ W, Below w1.heap.size w1 W → Ch W (g + 2) none 0 0 0 0 0 0 0) := hide (fun W hb => R1.below hb (by omega))
  have HC : Hid (∀ W, Below w1.heap.size w1 W → ∀ i, i < 64 → W.cell? ⟨pb, po + i, none⟩ = some (.int .i64 (zg Z i))) := hide (fun W hb i hi => (hb.cell (p := ⟨pb, po + i, none⟩) (World.block_lt_of_cell? w1 _ (hcl i hi))).trans (hcl i hi))
  have HB1 := hide B1
  have HG := hide hg
  have HS1 := hide s1
  have hZl : Z.length = 64 := hz.1
  have bx := hz.2 x
  have HSZ := hide (fun v h1 h2 => size_any v h1 h2)
  obtain ⟨zf, hzf⟩ : ∃ zf, zg Z x = zf := ⟨_, rfl⟩
  rw [hzf] at bx
  obtain ⟨kd, hkd⟩ : ∃ kd, zf.natAbs = kd := ⟨_, rfl⟩
  have HZX := hide hzf
  have HKD := hide hkd
  have hx' : (x : Int) < 64 := by omega
  have hq' : (q : Int) < 64 := by omega
  have HTT := hide hT
  have HSV := hide hs
  clear B1 hR M1 R1 hcl hT hs hzf hkd
  try rw [hg]
  go_enter Tryd.func30, Tryd.ntmps30
  go_upto_region 1 with fail
  try rw [hg]
  clear hw1
  go_wp2_with (refine wpList_load_ch rfl (.tmp 2) rfl g rfl C1 ?_)
  refine HCO.out.mono ?_
  rintro r w2 ⟨rb, c', rfl, hmw, hrb, h64, hmx, hb2⟩
  obtain ⟨qb, hqb⟩ : ∃ qb, w2.heap.size = qb := ⟨_, rfl⟩
  obtain ⟨w3, hw3⟩ : ∃ w3, w2.alloc (.cells (chA none 0 0 0 0 0 0 0) 24) = w3 := ⟨_, rfl⟩
  have Q3 : Ch w3 qb none 0 0 0 0 0 0 0 := by rw [← hw3, ← hqb]; exact Ch.new w2 none 0 0 0 0 0 0 0
  have b23 : Below w2.heap.size w2 w3 := by rw [← hw3]; exact (Below.refl _ _).alloc (Nat.le_refl _) _
  have HNE : Hid (qb ≠ rb ∧ w1.heap.size ≤ qb ∧ w1.heap.size ≤ rb ∧ 64 ≤ c' ∧ c' ≤ maxLen) := hide ⟨by have := hmw.lt; omega, by have := hb2.size; omega, hrb, h64, hmx⟩
  have HMW3 := hide (hmw.mono b23)
  have HB3 : Hid (Below w1.heap.size w1 w3) := hide (hb2.trans (b23.mono hb2.size))
  clear hmw hrb b23 hb2 C1
  go_upto_region 2 with (refine wpList_store_ch rfl (.tmp 5) (.tmp 15) rfl qb (by simp [Act.eval]) rfl Q3 ?_; intro w4 Q4 K4)
  have hcm' : c' ≤ 2 ^ 63 - 1 := hmx
  have D4 : DnP w1 qb rb c' Z T (k : Nat) e (h : Nat) (f : Nat) w4 := ⟨Q4, HMW3.out.keeps K4 (fun e => HNE.out.1 e.symm), HB3.out.trans (K4.below HB3.out.size (fun j hj e => by have := HNE.out.2.1; omega))⟩
  clear hw3 Q3 K4 Q4 HMW3 HB3
  try rw [hqb]
  clear hqb
  have HSX := HSZ.out zf (by omega) (by omega)
  rw [HKD.out] at HSX
  have HSX' := hide HSX
  clear HSX
  obtain ⟨w5, hw5⟩ : ∃ w5, w4.setCell ⟨rb, x, none⟩ (.int .i64 0) = w5 := ⟨_, rfl⟩
  have D5 : DnP w1 qb rb c' (Z.set x 0) T (k : Nat) e (h : Nat) (f : Nat) w5 := by rw [← hw5]; exact D4.setR HNE.out.2.2.1 HNE.out.1 x 0
  obtain ⟨w6, hw6⟩ : ∃ w6, w5.setCell ⟨rb, q, none⟩ (.int .i64 zf) = w6 := ⟨_, rfl⟩
  have D6 : DnP w1 qb rb c' (mv1 Z x q) T (k : Nat) e (h : Nat) (f : Nat) w6 := by
    have := D5.setR HNE.out.2.2.1 HNE.out.1 q zf
    rw [hw6, ← HZX.out, mv1_eq] at this
    exact this
  have HD6 := hide D6
  obtain ⟨x0, x1, -, -, -, -⟩ := (HP.out w4 D4.b).cells
  have m0 := (HM.out w4 D4.b).cell (i := 0) rfl
  have zx := HC.out w4 D4.b x hx
  rw [HZX.out] at zx
  obtain ⟨y0, -, -, -, -, -⟩ := D4.q.cells
  have rx := D4.r.cell hx
  have fx := D4.r.frozen x
  have m0' := (HM.out w5 D5.b).cell (i := 0) rfl
  have m1' := (HM.out w5 D5.b).cell (i := 1) rfl
  obtain ⟨y0', -, -, -, -, -⟩ := D5.q.cells
  have rq := D5.r.cell hq
  have fq := D5.r.frozen q
  clear D4 D5 D6
  go_upto_region 7 with (first
    | (go_at_call 39; refine (HSS.out _).mono ?_; rintro r w9 ⟨rfl, hw⟩; subst w9)
    | (go_at_call 25; refine (HSX'.out _).mono ?_; rintro r w9 ⟨rfl, hw⟩; subst w9))
  clear hw5 hw6 x0 x1 m0 zx y0 rx fx m0' m1' y0' rq fq
  go_upto_region 7 with fail
  obtain ⟨pb, hpb⟩ : ∃ pb, ((kd : Int) == 1) = pb := ⟨_, rfl⟩
  rw [hpb]
  have HPB : Hid ((kd == 1) = pb) := hide (by rw [← hpb, Bool.eq_iff_iff, beq_iff_eq, beq_iff_eq]; omega)
  clear hpb
  have m2 := (HM.out w6 HD6.out.b).cell (i := 2) rfl
  go_upto_if 41 with fail
  clear m2
  go_cut [] from 9 to 51 (fun wc => Hid (DnP w1 qb rb c' (mv2 Z t x q n) (T) (((k : Nat) : Int)) (e) (((h : Nat) : Int)) (((f : Nat) : Int)) wc))
  case first =>
    as_aux_lemma =>
      by_cases hn0 : n = 0
      · subst hn0
        go_wp2_with fail
        go_meet
        case rel => exact hide (by rw [mv2_zero]; exact HD6.out)
      · have hn1 : ((n : Int) > 0) := by omega
        have hn2 : ((n : Int) > 0) = True := by simp; omega
        have hsn : wrap64 (s * (n : Int)) = pci t (n : Int) := by
          have h0 := HTT.out
          have h1 := HSV.out
          rcases hs1 with rfl | rfl
          · have : t = 0 := by omega
            rw [this]; unfold wrap64 pci; rw [if_pos rfl]; omega
          · have : t = 1 := by omega
            rw [this]; unfold wrap64 pci; rw [if_neg (by omega)]; omega
        obtain ⟨w7, hw7⟩ : ∃ w7, w6.setCell ⟨rb, q, none⟩ (.int .i64 (pci t (n : Int))) = w7 := ⟨_, rfl⟩
        have HD7 : Hid (DnP w1 qb rb c' (mv2 Z t x q n) (T) (((k : Nat) : Int)) (e) (((h : Nat) : Int)) (((f : Nat) : Int)) w7) := hide (by
          have := HD6.out.setR HNE.out.2.2.1 HNE.out.1 q (pci t (n : Int))
          rw [hw7] at this
          rw [mv2_pos hn0]
          exact this)
        have m1 := (HM.out w6 HD6.out.b).cell (i := 1) rfl
        have m2 := (HM.out w6 HD6.out.b).cell (i := 2) rfl
        obtain ⟨y0, -, -, -, -, -⟩ := HD6.out.q.cells
        have rq := HD6.out.r.cell hq
        have fq := HD6.out.r.frozen q
        go_wp2_with fail
        go_meet
        case rel => exact HD7
  case rest =>
    have HD7 := hcut
    clear HD6 hcut
    rename World => w7
    have H8 : Hid (wrap64 (8 * s) = 8 * s ∧ pci t 8 = 8 * s) := hide (by
      have h0 := HTT.out
      have h1 := HSV.out
      rcases hs1 with rfl | rfl
      · have : t = 0 := by omega
        rw [this]; unfold wrap64 pci; rw [if_pos rfl]; omega
      · have : t = 1 := by omega
        rw [this]; unfold wrap64 pci; rw [if_neg (by omega)]; omega)
    have HTK : Hid (tkB Z e x q = (decide ((q : Int) = e) && pb)) := hide (by unfold tkB; rw [HZX.out, HKD.out, HPB.out])
    have HBK := hide hbk
    clear hbk
    refine (by assumption : ∀ (a : Act) (w : World), Code.wp Tryd.prog _ _ a w → _) _ _ ?_
    apply wp_seq_k
    intro _ _
    go_cut [] from 9 to 67 (fun wc => Hid (DnP w1 qb rb c' (mv3 Z t e x q n) (T) (((k : Nat) : Int)) (e) (((h : Nat) : Int)) (((f : Nat) : Int)) wc))
    case first =>
      as_aux_lemma =>
        obtain ⟨-, -, -, z3, -, -⟩ := (HP.out w7 HD7.out.b).cells
        have m1 := (HM.out w7 HD7.out.b).cell (i := 1) rfl
        cases pb with
        | true =>
          by_cases hqe : (q : Int) = e
          · have hqb : ((q : Int) == e) = true := by simp [hqe]
            have htk : tkB Z e x q = true := by rw [HTK.out, decide_eq_true hqe]; rfl
            have HV := hide (mv3_yes (t := t) (n := n) htk)
            obtain ⟨hb64, hbe⟩ := HBK.out htk
            obtain ⟨bq, hbq⟩ : ∃ bq, bk t q = bq := ⟨_, rfl⟩
            rw [hbq] at hb64 hbe HV
            have w8 := H8.out.1
            have hbi : IntKind.i64.wrap ((q : Int) - 8 * s) = ((bq : Nat) : Int) := by rw [← H8.out.2, hbe, IntKind.wrap_i64]; omega
            have hb64' : (bq : Int) < 64 := by omega
            obtain ⟨w8, hw8⟩ : ∃ w8, w7.setCell ⟨rb, bq, none⟩ (.int .i64 0) = w8 := ⟨_, rfl⟩
            have HD8 : Hid (DnP w1 qb rb c' (mv3 Z t e x q n) (T) (((k : Nat) : Int)) (e) (((h : Nat) : Int)) (((f : Nat) : Int)) w8) := hide (by
              have := HD7.out.setR HNE.out.2.2.1 HNE.out.1 bq 0
              rw [hw8, ← HV.out] at this
              exact this)
            obtain ⟨y0, -, -, -, -, -⟩ := HD7.out.q.cells
            have rq := HD7.out.r.cell hb64
            have fq := HD7.out.r.frozen bq
            clear htk hbq hqe
            go_wp2_with fail
            go_meet
            case rel => exact HD8
          · have hqb : ((q : Int) == e) = false := by rw [beq_eq_false_iff_ne]; exact hqe
            have htk : tkB Z e x q = false := by rw [HTK.out, decide_eq_false hqe]; rfl
            have HV := hide (mv3_no (t := t) (n := n) htk)
            clear hqe htk
            go_wp2_with fail
            go_meet
            case rel => exact hide (by rw [HV.out]; exact HD7.out)
        | false =>
          have htk : tkB Z e x q = false := by rw [HTK.out, Bool.and_false]
          have HV := hide (mv3_no (t := t) (n := n) htk)
          clear htk
          go_wp2_with fail
          go_meet
          case rel => exact hide (by rw [HV.out]; exact HD7.out)
    case rest =>
      have HD8 := hcut
      clear HD7 hcut
      rename World => w8
      refine (by assumption : ∀ (a : Act) (w : World), Code.wp Tryd.prog _ _ a w → _) _ _ ?_
      apply wp_seq_k
      intro _ _
      have HS2 := hide (HSZ.out ((q : Int) - (x : Int)) (by omega) (by omega))
      have hwr : IntKind.i64.wrap ((q : Int) - (x : Int)) = (q : Int) - (x : Int) := by rw [IntKind.wrap_i64]; omega
      obtain ⟨d2, hd2⟩ : ∃ d2, ((q : Int) - (x : Int)).natAbs = d2 := ⟨_, rfl⟩
      rw [hd2] at HS2
      have HD2 := hide hd2
      have HWR := hide hwr
      clear hd2
      go_cut [] from 9 to 111 (fun wc => Hid (DnP w1 qb rb c' (dnZ Z t e x q n) (T) (((k : Nat) : Int)) (e) (((h : Nat) : Int)) (((f : Nat) : Int)) wc))
      case first =>
        as_aux_lemma =>
          have m0 := (HM.out w8 HD8.out.b).cell (i := 0) rfl
          have m1 := (HM.out w8 HD8.out.b).cell (i := 1) rfl
          by_cases h6 : kd = 6
          · have h6b : ((kd : Int) == 6) = true := by simp [h6]
            by_cases h2 : d2 = 2
            · have h2b : ((d2 : Int) == 2) = true := by simp [h2]
              have HV : Hid (dnZ Z t e x q n = ((mv3 Z t e x q n).set ((x + q) / 2) (zg (mv3 Z t e x q n) (crn x q))).set (crn x q) 0) := hide (by unfold dnZ; rw [if_pos ⟨by rw [HZX.out, HKD.out, h6], by rw [HD2.out, h2]⟩])
              clear h6 h2
              have hwr := HWR.out
              by_cases hlt : q < x
              · have hcr : crn x q = x / 8 * 8 := by unfold crn; rw [if_pos hlt]
                obtain ⟨cr, hcrn⟩ : ∃ cr, x / 8 * 8 = cr := ⟨_, rfl⟩
                rw [hcrn] at hcr
                have hc64 : cr < 64 := by omega
                have hc64' : (cr : Int) < 64 := by omega
                obtain ⟨md, hmd⟩ : ∃ md, (x + q) / 2 = md := ⟨_, rfl⟩
                have hm64 : md < 64 := by omega
                have hm64' : (md : Int) < 64 := by omega
                rw [hcr, hmd] at HV
                have hltb : (q : Int) < (x : Int) := by omega
                have hw1 : IntKind.i64.wrap ((x : Int) / 8 * 8) = (x : Int) / 8 * 8 := by rw [IntKind.wrap_i64]; omega
                have hw1' : wrap64 ((x : Int) / 8 * 8) = (x : Int) / 8 * 8 := by unfold wrap64; omega
                have hw2 : IntKind.i64.wrap ((x : Int) / 8 * 8 + 7) = (x : Int) / 8 * 8 + 7 := by rw [IntKind.wrap_i64]; omega
                have hcv : (x : Int) / 8 * 8 = ((cr : Nat) : Int) := by omega
                clear hcrn hlt
                go_upto_region 15 with (first | (go_at_call 25; first | (refine (HSX'.out _).mono ?_; rintro r w9 ⟨rfl, hw⟩; subst w9) | (refine (HS2.out _).mono ?_; rintro r w9 ⟨rfl, hw⟩; subst w9)))
                have HQ8 : Hid (∀ W, Keeps (fun j => j = rb) w8 W → Ch W qb (some ⟨rb, 0, none⟩) 64 c' T (k : Nat) e (h : Nat) (f : Nat)) := hide (fun W hk => HD8.out.q.keeps hk HNE.out.1)
                have HM8 : Hid (∀ W, Keeps (fun j => j = rb) w8 W → Vb W (g + 1) 42 [.int .i64 (x : Nat), .int .i64 (q : Nat), .int .i64 (n : Nat)]) := hide (fun W hk => (HM.out w8 HD8.out.b).keeps hk (fun e0 => by have := HNE.out.2.2.1; have := HS1.out; omega))
                have hmq : ((x : Int) + (q : Int)) / 2 = ((md : Nat) : Int) := by omega
                have hmt : IntKind.i64.wrap (((x : Int) + (q : Int)).tdiv 2) = ((md : Nat) : Int) := by rw [Int.tdiv_eq_ediv_of_nonneg (by omega), hmq, IntKind.wrap_i64]; omega
                refine wp_region_held (S := fun W5 => Keeps (fun j => j = rb) w8 W5) (by kernel_rfl) ?_
                change wpAnyH _ _ _ _ _ _ _ _ (World.drew _)
                have SW : (fun W5 => Keeps (fun j => j = rb) w8 W5) w8.drew := (Keeps.refl _ _).drew
                have RD : Mw w8.drew rb (mv3 Z t e x q n) := HD8.out.r.mono (drewN_below _ _ 1)
                generalize w8.drew = wd at *
                refine wpAnyH_take (i := 0) (v := .pointer (some ⟨qb, 0, none⟩)) rfl (by kernel_rfl) (by kernel_rfl) (by kernel_rfl) (fun _ _ _ h => h) (Or.inl ⟨by rfl, ?_⟩) SW ?_
                · intro W5 hW5
                  go_simp <;> first | done | rfl | (rw [IntKind.wrap_i64]; omega) | omega
                go_simp
                refine wpAnyH_take (i := 1) (v := .slice (some ⟨rb, 0, none⟩) 64 c') rfl (by kernel_rfl) (by kernel_rfl) (by kernel_rfl) (fun _ _ _ h => h) (Or.inl ⟨by rfl, ?_⟩) SW ?_
                · intro W5 hW5
                  have y0 := (HQ8.out W5 hW5).cells.1
                  go_simp <;> first | done | rfl | (rw [IntKind.wrap_i64]; omega) | omega
                go_simp
                refine wpAnyH_take (i := 2) (v := .pointer (some ⟨g + 1, 0, none⟩)) rfl (by kernel_rfl) (by kernel_rfl) (by kernel_rfl) (fun _ _ _ h => h) (Or.inl ⟨by rfl, ?_⟩) SW ?_
                · intro W5 hW5
                  go_simp <;> first | done | rfl | (rw [IntKind.wrap_i64]; omega) | omega
                go_simp
                refine wpAnyH_take (i := 3) (v := .int .i64 (x : Nat)) rfl (by kernel_rfl) (by kernel_rfl) (by kernel_rfl) (fun _ _ _ h => h) (Or.inl ⟨by rfl, ?_⟩) SW ?_
                · intro W5 hW5
                  have y0 := (HM8.out W5 hW5).cell (i := 0) rfl
                  go_simp <;> first | done | rfl | (rw [IntKind.wrap_i64]; omega) | omega
                go_simp
                refine wpAnyH_take (i := 4) (v := .pointer (some ⟨g + 1, 1, none⟩)) rfl (by kernel_rfl) (by kernel_rfl) (by kernel_rfl) (fun _ _ _ h => h) (Or.inl ⟨by rfl, ?_⟩) SW ?_
                · intro W5 hW5
                  go_simp <;> first | done | rfl | (rw [IntKind.wrap_i64]; omega) | omega
                go_simp
                refine wpAnyH_take (i := 5) (v := .int .i64 (q : Nat)) rfl (by kernel_rfl) (by kernel_rfl) (by kernel_rfl) (fun _ _ _ h => h) (Or.inl ⟨by rfl, ?_⟩) SW ?_
                · intro W5 hW5
                  have y0 := (HM8.out W5 hW5).cell (i := 1) rfl
                  go_simp <;> first | done | rfl | (rw [IntKind.wrap_i64]; omega) | omega
                go_simp
                refine wpAnyH_take (i := 6) (v := .int .i64 ((x : Int) + (q : Int))) rfl (by kernel_rfl) (by kernel_rfl) (by kernel_rfl) (fun _ _ _ h => h) (Or.inl ⟨by rfl, ?_⟩) SW ?_
                · intro W5 hW5
                  go_simp <;> first | done | rfl | (rw [IntKind.wrap_i64]; omega) | omega
                go_simp
                refine wpAnyH_take (i := 7) (v := .int .i64 ((md : Nat) : Int)) rfl (by kernel_rfl) (by kernel_rfl) (by kernel_rfl) (fun _ _ _ h => h) (Or.inl ⟨by rfl, ?_⟩) SW ?_
                · intro W5 hW5
                  go_simp <;> first | done | rfl | (rw [IntKind.wrap_i64]; omega) | omega
                go_simp
                refine wpAnyH_take (i := 8) (v := .pointer (some ⟨qb, 0, none⟩)) rfl (by kernel_rfl) (by kernel_rfl) (by kernel_rfl) (fun _ _ _ h => h) (Or.inl ⟨by rfl, ?_⟩) SW ?_
                · intro W5 hW5
                  go_simp <;> first | done | rfl | (rw [IntKind.wrap_i64]; omega) | omega
                go_simp
                refine wpAnyH_take (i := 9) (v := .slice (some ⟨rb, 0, none⟩) 64 c') rfl (by kernel_rfl) (by kernel_rfl) (by kernel_rfl) (fun _ _ _ h => h) (Or.inl ⟨by rfl, ?_⟩) SW ?_
                · intro W5 hW5
                  have y0 := (HQ8.out W5 hW5).cells.1
                  go_simp <;> first | done | rfl | (rw [IntKind.wrap_i64]; omega) | omega
                go_simp
                refine wpAnyH_take (i := 10) (v := .int .i64 ((cr : Nat) : Int)) rfl (by kernel_rfl) (by kernel_rfl) (by kernel_rfl) (fun _ _ _ h => h) (Or.inl ⟨by rfl, ?_⟩) SW ?_
                · intro W5 hW5
                  go_simp <;> first | done | rfl | (rw [IntKind.wrap_i64]; omega) | omega
                go_simp
                refine wpAnyH_take (i := 11) (v := .pointer (some ⟨rb, cr, none⟩)) rfl (by kernel_rfl) (by kernel_rfl) (by kernel_rfl) (fun _ _ _ h => h) (Or.inl ⟨by rfl, ?_⟩) SW ?_
                · intro W5 hW5
                  go_simp <;> first | done | rfl | (rw [IntKind.wrap_i64]; omega) | omega
                go_simp
                obtain ⟨zv, hzv⟩ : ∃ zv, (mv3 Z t e x q n).getD cr 0 = zv := ⟨_, rfl⟩
                have HZV := hide hzv
                have rc := RD.cell hc64
                rw [hzv] at rc
                clear hzv
                refine wpAnyH_ready (rs := [12]) (by kernel_rfl) (by simp) ?_
                refine AllReadyH.cons rfl (fun K1 hK1 => ?_) AllReadyH.nil
                go_simp
                refine hK1.out _ _ SW (fun SW => ?_)
                clear hK1 K1 rc
                go_simp
                refine wpAnyH_take (i := 13) (v := .pointer (some ⟨rb, md, none⟩)) rfl (by kernel_rfl) (by kernel_rfl) (by kernel_rfl) (fun _ _ _ h => h) (Or.inl ⟨by rfl, ?_⟩) SW ?_
                · intro W5 hW5
                  go_simp <;> first | done | rfl | (rw [IntKind.wrap_i64]; omega) | omega
                go_simp
                have rm := RD.cell hm64
                have fm := RD.frozen md
                refine wpAnyH_ready (rs := [14]) (by kernel_rfl) (by simp) ?_
                refine AllReadyH.cons rfl (fun K1 hK1 => ?_) AllReadyH.nil
                go_simp
                refine hK1.out _ _ (SW.trans (Keeps.set1 _ _ _ _)) (fun SW => ?_)
                clear hK1 K1
                have RE : Mw (wd.setCell ⟨rb, md, none⟩ (.int .i64 zv)) rb ((mv3 Z t e x q n).set md zv) := RD.set md _
                generalize wd.setCell ⟨rb, md, none⟩ (.int .i64 zv) = we at *
                clear rm fm RD
                go_simp
                refine wpAnyH_done (by kernel_rfl) ?_ _
                have HSW := hide SW
                have QE := HQ8.out we SW
                obtain ⟨y0, -, -, -, -, -⟩ := QE.cells
                have rc := RE.cell hc64
                have fc := RE.frozen cr
                obtain ⟨wf, hwf⟩ : ∃ wf, we.setCell ⟨rb, cr, none⟩ (.int .i64 0) = wf := ⟨_, rfl⟩
                have HDF : Hid (DnP w1 qb rb c' (dnZ Z t e x q n) (T) (((k : Nat) : Int)) (e) (((h : Nat) : Int)) (((f : Nat) : Int)) wf) := hide (by
                  rw [HV.out, ← hwf, show zg (mv3 Z t e x q n) cr = zv from HZV.out]
                  exact DnP.setR (L := (mv3 Z t e x q n).set md zv) ⟨QE, RE, HD8.out.b.trans (HSW.out.below HD8.out.b.size (fun j hj e0 => by have := HNE.out.2.2.1; omega))⟩ HNE.out.2.2.1 HNE.out.1 cr 0)
                clear SW QE RE
                go_wp2_with fail
                go_meet
                case rel => exact HDF
              · have hcr : crn x q = x / 8 * 8 + 7 := by unfold crn; rw [if_neg hlt]
                obtain ⟨cr, hcrn⟩ : ∃ cr, x / 8 * 8 + 7 = cr := ⟨_, rfl⟩
                rw [hcrn] at hcr
                have hc64 : cr < 64 := by omega
                have hc64' : (cr : Int) < 64 := by omega
                obtain ⟨md, hmd⟩ : ∃ md, (x + q) / 2 = md := ⟨_, rfl⟩
                have hm64 : md < 64 := by omega
                have hm64' : (md : Int) < 64 := by omega
                rw [hcr, hmd] at HV
                have hltb : ¬ (q : Int) < (x : Int) := by omega
                have hw1 : IntKind.i64.wrap ((x : Int) / 8 * 8) = (x : Int) / 8 * 8 := by rw [IntKind.wrap_i64]; omega
                have hw1' : wrap64 ((x : Int) / 8 * 8) = (x : Int) / 8 * 8 := by unfold wrap64; omega
                have hw2 : IntKind.i64.wrap ((x : Int) / 8 * 8 + 7) = (x : Int) / 8 * 8 + 7 := by rw [IntKind.wrap_i64]; omega
                have hcv : (x : Int) / 8 * 8 + 7 = ((cr : Nat) : Int) := by omega
                clear hcrn hlt
                go_upto_region 15 with (first | (go_at_call 25; first | (refine (HSX'.out _).mono ?_; rintro r w9 ⟨rfl, hw⟩; subst w9) | (refine (HS2.out _).mono ?_; rintro r w9 ⟨rfl, hw⟩; subst w9)))
                have HQ8 : Hid (∀ W, Keeps (fun j => j = rb) w8 W → Ch W qb (some ⟨rb, 0, none⟩) 64 c' T (k : Nat) e (h : Nat) (f : Nat)) := hide (fun W hk => HD8.out.q.keeps hk HNE.out.1)
                have HM8 : Hid (∀ W, Keeps (fun j => j = rb) w8 W → Vb W (g + 1) 42 [.int .i64 (x : Nat), .int .i64 (q : Nat), .int .i64 (n : Nat)]) := hide (fun W hk => (HM.out w8 HD8.out.b).keeps hk (fun e0 => by have := HNE.out.2.2.1; have := HS1.out; omega))
                have hmq : ((x : Int) + (q : Int)) / 2 = ((md : Nat) : Int) := by omega
                have hmt : IntKind.i64.wrap (((x : Int) + (q : Int)).tdiv 2) = ((md : Nat) : Int) := by rw [Int.tdiv_eq_ediv_of_nonneg (by omega), hmq, IntKind.wrap_i64]; omega
                refine wp_region_held (S := fun W5 => Keeps (fun j => j = rb) w8 W5) (by kernel_rfl) ?_
                change wpAnyH _ _ _ _ _ _ _ _ (World.drew _)
                have SW : (fun W5 => Keeps (fun j => j = rb) w8 W5) w8.drew := (Keeps.refl _ _).drew
                have RD : Mw w8.drew rb (mv3 Z t e x q n) := HD8.out.r.mono (drewN_below _ _ 1)
                generalize w8.drew = wd at *
                refine wpAnyH_take (i := 0) (v := .pointer (some ⟨qb, 0, none⟩)) rfl (by kernel_rfl) (by kernel_rfl) (by kernel_rfl) (fun _ _ _ h => h) (Or.inl ⟨by rfl, ?_⟩) SW ?_
                · intro W5 hW5
                  go_simp <;> first | done | rfl | (rw [IntKind.wrap_i64]; omega) | omega
                go_simp
                refine wpAnyH_take (i := 1) (v := .slice (some ⟨rb, 0, none⟩) 64 c') rfl (by kernel_rfl) (by kernel_rfl) (by kernel_rfl) (fun _ _ _ h => h) (Or.inl ⟨by rfl, ?_⟩) SW ?_
                · intro W5 hW5
                  have y0 := (HQ8.out W5 hW5).cells.1
                  go_simp <;> first | done | rfl | (rw [IntKind.wrap_i64]; omega) | omega
                go_simp
                refine wpAnyH_take (i := 2) (v := .pointer (some ⟨g + 1, 0, none⟩)) rfl (by kernel_rfl) (by kernel_rfl) (by kernel_rfl) (fun _ _ _ h => h) (Or.inl ⟨by rfl, ?_⟩) SW ?_
                · intro W5 hW5
                  go_simp <;> first | done | rfl | (rw [IntKind.wrap_i64]; omega) | omega
                go_simp
                refine wpAnyH_take (i := 3) (v := .int .i64 (x : Nat)) rfl (by kernel_rfl) (by kernel_rfl) (by kernel_rfl) (fun _ _ _ h => h) (Or.inl ⟨by rfl, ?_⟩) SW ?_
                · intro W5 hW5
                  have y0 := (HM8.out W5 hW5).cell (i := 0) rfl
                  go_simp <;> first | done | rfl | (rw [IntKind.wrap_i64]; omega) | omega
                go_simp
                refine wpAnyH_take (i := 4) (v := .pointer (some ⟨g + 1, 1, none⟩)) rfl (by kernel_rfl) (by kernel_rfl) (by kernel_rfl) (fun _ _ _ h => h) (Or.inl ⟨by rfl, ?_⟩) SW ?_
                · intro W5 hW5
                  go_simp <;> first | done | rfl | (rw [IntKind.wrap_i64]; omega) | omega
                go_simp
                refine wpAnyH_take (i := 5) (v := .int .i64 (q : Nat)) rfl (by kernel_rfl) (by kernel_rfl) (by kernel_rfl) (fun _ _ _ h => h) (Or.inl ⟨by rfl, ?_⟩) SW ?_
                · intro W5 hW5
                  have y0 := (HM8.out W5 hW5).cell (i := 1) rfl
                  go_simp <;> first | done | rfl | (rw [IntKind.wrap_i64]; omega) | omega
                go_simp
                refine wpAnyH_take (i := 6) (v := .int .i64 ((x : Int) + (q : Int))) rfl (by kernel_rfl) (by kernel_rfl) (by kernel_rfl) (fun _ _ _ h => h) (Or.inl ⟨by rfl, ?_⟩) SW ?_
                · intro W5 hW5
                  go_simp <;> first | done | rfl | (rw [IntKind.wrap_i64]; omega) | omega
                go_simp
                refine wpAnyH_take (i := 7) (v := .int .i64 ((md : Nat) : Int)) rfl (by kernel_rfl) (by kernel_rfl) (by kernel_rfl) (fun _ _ _ h => h) (Or.inl ⟨by rfl, ?_⟩) SW ?_
                · intro W5 hW5
                  go_simp <;> first | done | rfl | (rw [IntKind.wrap_i64]; omega) | omega
                go_simp
                refine wpAnyH_take (i := 8) (v := .pointer (some ⟨qb, 0, none⟩)) rfl (by kernel_rfl) (by kernel_rfl) (by kernel_rfl) (fun _ _ _ h => h) (Or.inl ⟨by rfl, ?_⟩) SW ?_
                · intro W5 hW5
                  go_simp <;> first | done | rfl | (rw [IntKind.wrap_i64]; omega) | omega
                go_simp
                refine wpAnyH_take (i := 9) (v := .slice (some ⟨rb, 0, none⟩) 64 c') rfl (by kernel_rfl) (by kernel_rfl) (by kernel_rfl) (fun _ _ _ h => h) (Or.inl ⟨by rfl, ?_⟩) SW ?_
                · intro W5 hW5
                  have y0 := (HQ8.out W5 hW5).cells.1
                  go_simp <;> first | done | rfl | (rw [IntKind.wrap_i64]; omega) | omega
                go_simp
                refine wpAnyH_take (i := 10) (v := .int .i64 ((cr : Nat) : Int)) rfl (by kernel_rfl) (by kernel_rfl) (by kernel_rfl) (fun _ _ _ h => h) (Or.inl ⟨by rfl, ?_⟩) SW ?_
                · intro W5 hW5
                  go_simp <;> first | done | rfl | (rw [IntKind.wrap_i64]; omega) | omega
                go_simp
                refine wpAnyH_take (i := 11) (v := .pointer (some ⟨rb, cr, none⟩)) rfl (by kernel_rfl) (by kernel_rfl) (by kernel_rfl) (fun _ _ _ h => h) (Or.inl ⟨by rfl, ?_⟩) SW ?_
                · intro W5 hW5
                  go_simp <;> first | done | rfl | (rw [IntKind.wrap_i64]; omega) | omega
                go_simp
                obtain ⟨zv, hzv⟩ : ∃ zv, (mv3 Z t e x q n).getD cr 0 = zv := ⟨_, rfl⟩
                have HZV := hide hzv
                have rc := RD.cell hc64
                rw [hzv] at rc
                clear hzv
                refine wpAnyH_ready (rs := [12]) (by kernel_rfl) (by simp) ?_
                refine AllReadyH.cons rfl (fun K1 hK1 => ?_) AllReadyH.nil
                go_simp
                refine hK1.out _ _ SW (fun SW => ?_)
                clear hK1 K1 rc
                go_simp
                refine wpAnyH_take (i := 13) (v := .pointer (some ⟨rb, md, none⟩)) rfl (by kernel_rfl) (by kernel_rfl) (by kernel_rfl) (fun _ _ _ h => h) (Or.inl ⟨by rfl, ?_⟩) SW ?_
                · intro W5 hW5
                  go_simp <;> first | done | rfl | (rw [IntKind.wrap_i64]; omega) | omega
                go_simp
                have rm := RD.cell hm64
                have fm := RD.frozen md
                refine wpAnyH_ready (rs := [14]) (by kernel_rfl) (by simp) ?_
                refine AllReadyH.cons rfl (fun K1 hK1 => ?_) AllReadyH.nil
                go_simp
                refine hK1.out _ _ (SW.trans (Keeps.set1 _ _ _ _)) (fun SW => ?_)
                clear hK1 K1
                have RE : Mw (wd.setCell ⟨rb, md, none⟩ (.int .i64 zv)) rb ((mv3 Z t e x q n).set md zv) := RD.set md _
                generalize wd.setCell ⟨rb, md, none⟩ (.int .i64 zv) = we at *
                clear rm fm RD
                go_simp
                refine wpAnyH_done (by kernel_rfl) ?_ _
                have HSW := hide SW
                have QE := HQ8.out we SW
                obtain ⟨y0, -, -, -, -, -⟩ := QE.cells
                have rc := RE.cell hc64
                have fc := RE.frozen cr
                obtain ⟨wf, hwf⟩ : ∃ wf, we.setCell ⟨rb, cr, none⟩ (.int .i64 0) = wf := ⟨_, rfl⟩
                have HDF : Hid (DnP w1 qb rb c' (dnZ Z t e x q n) (T) (((k : Nat) : Int)) (e) (((h : Nat) : Int)) (((f : Nat) : Int)) wf) := hide (by
                  rw [HV.out, ← hwf, show zg (mv3 Z t e x q n) cr = zv from HZV.out]
                  exact DnP.setR (L := (mv3 Z t e x q n).set md zv) ⟨QE, RE, HD8.out.b.trans (HSW.out.below HD8.out.b.size (fun j hj e0 => by have := HNE.out.2.2.1; omega))⟩ HNE.out.2.2.1 HNE.out.1 cr 0)
                clear SW QE RE
                go_wp2_with fail
                go_meet
                case rel => exact HDF
            · have h2b : ((d2 : Int) == 2) = false := by rw [beq_eq_false_iff_ne]; omega
              have HV : Hid (dnZ Z t e x q n = mv3 Z t e x q n) := hide (by unfold dnZ; rw [if_neg (fun hh => h2 (by rw [← HD2.out]; exact hh.2))])
              clear h6 h2
              go_wp2_with (first | (go_at_call 25; first | (refine (HSX'.out _).mono ?_; rintro r w9 ⟨rfl, hw⟩; subst w9) | (refine (HS2.out _).mono ?_; rintro r w9 ⟨rfl, hw⟩; subst w9)))
              go_meet
              case rel => exact hide (by rw [HV.out]; exact HD8.out)
          · have h6b : ((kd : Int) == 6) = false := by rw [beq_eq_false_iff_ne]; omega
            have HV : Hid (dnZ Z t e x q n = mv3 Z t e x q n) := hide (by unfold dnZ; rw [if_neg (fun hh => h6 (by rw [← HKD.out, ← HZX.out]; exact hh.1))])
            clear h6
            go_wp2_with (first | (go_at_call 25; first | (refine (HSX'.out _).mono ?_; rintro r w9 ⟨rfl, hw⟩; subst w9) | (refine (HS2.out _).mono ?_; rintro r w9 ⟨rfl, hw⟩; subst w9)))
            go_meet
            case rel => exact hide (by rw [HV.out]; exact HD8.out)
      case rest =>
        have HD9 := hcut
        clear HD8 hcut
        rename World => w9
        refine (by assumption : ∀ (a : Act) (w : World), Code.wp Tryd.prog _ _ a w → _) _ _ ?_
        apply wp_seq_k
        intro _ _
        obtain ⟨T2, hT2⟩ : ∃ T2 : Int, 1 - T = T2 := ⟨_, rfl⟩
        have hw17 : IntKind.i64.wrap (1 - T) = T2 := by have := HTT.out; rw [hT2, IntKind.wrap_i64]; omega
        have HT2 : Hid (((1 - t : Nat) : Int) = T2) := hide (by have := HTT.out; omega)
        clear hT2
        obtain ⟨w10, hw10⟩ : ∃ w10, w9.setCell ⟨qb, 1, none⟩ (.int .i64 T2) = w10 := ⟨_, rfl⟩
        have HD10 : Hid (DnP w1 qb rb c' (dnZ Z t e x q n) (T2) (((k : Nat) : Int)) (e) (((h : Nat) : Int)) (((f : Nat) : Int)) w10) := hide (by rw [← hw10]; exact HD9.out.setT HNE.out.2.1 HNE.out.1 T2)
        obtain ⟨-, x1, -, -, -, -⟩ := (HP.out w9 HD9.out.b).cells
        obtain ⟨-, y1, -, -, -, -⟩ := HD9.out.q.cells
        have f1 := HD9.out.q.frozen 1
        go_upto_region 18 with fail
        clear x1 y1 f1 hw17 hw10 HD9
        go_cut [] from 9 to 115 (fun wc => Hid (DnP w1 qb rb c' (dnZ Z t e x q n) (T2) (((k : Nat) : Int)) ((-1)) (((h : Nat) : Int)) (((f : Nat) : Int)) wc))
        case first =>
          as_aux_lemma =>
            obtain ⟨w11, hw11⟩ : ∃ w11, w10.setCell ⟨qb, 3, none⟩ (.int .i64 (-1)) = w11 := ⟨_, rfl⟩
            have HD11 : Hid (DnP w1 qb rb c' (dnZ Z t e x q n) (T2) (((k : Nat) : Int)) ((-1)) (((h : Nat) : Int)) (((f : Nat) : Int)) w11) := hide (by rw [← hw11]; exact HD10.out.setE HNE.out.2.1 HNE.out.1 (-1))
            obtain ⟨-, -, -, y3, -, -⟩ := HD10.out.q.cells
            have f3 := HD10.out.q.frozen 3
            go_wp2_with fail
            go_meet
            case rel => exact HD11
        case rest =>
          have HD11 := hcut
          clear HD10 hcut
          rename World => w11
          refine (by assumption : ∀ (a : Act) (w : World), Code.wp Tryd.prog _ _ a w → _) _ _ ?_
          apply wp_seq_k
          intro _ _
          go_cut [] from 9 to 132 (fun wc => Hid (DnP w1 qb rb c' (dnZ Z t e x q n) (T2) (((k : Nat) : Int)) (eR Z x q) (((h : Nat) : Int)) (((f : Nat) : Int)) wc))
          case first =>
            as_aux_lemma =>
              have m0 := (HM.out w11 HD11.out.b).cell (i := 0) rfl
              have m1 := (HM.out w11 HD11.out.b).cell (i := 1) rfl
              cases pb with
              | true =>
                have hk1 : kd = 1 := beq_iff_eq.1 HPB.out
                by_cases h16 : d2 = 16
                · have h16b : ((d2 : Int) == 16) = true := by simp [h16]
                  obtain ⟨md, hmd⟩ : ∃ md, (x + q) / 2 = md := ⟨_, rfl⟩
                  have HV : Hid (eR Z x q = ((md : Nat) : Int)) := hide (by unfold eR; rw [if_pos ⟨by rw [HZX.out, HKD.out, hk1], by rw [HD2.out, h16]⟩, hmd])
                  clear h16 hk1
                  have hmq : ((x : Int) + (q : Int)) / 2 = ((md : Nat) : Int) := by omega
                  have hmt : IntKind.i64.wrap (((x : Int) + (q : Int)).tdiv 2) = ((md : Nat) : Int) := by rw [Int.tdiv_eq_ediv_of_nonneg (by omega), hmq, IntKind.wrap_i64]; omega
                  have hmw : IntKind.i64.wrap ((x : Int) + (q : Int)) = (x : Int) + (q : Int) := by rw [IntKind.wrap_i64]; omega
                  clear hmd
                  obtain ⟨w12, hw12⟩ : ∃ w12, w11.setCell ⟨qb, 3, none⟩ (.int .i64 ((md : Nat) : Int)) = w12 := ⟨_, rfl⟩
                  have HD12 : Hid (DnP w1 qb rb c' (dnZ Z t e x q n) (T2) (((k : Nat) : Int)) (eR Z x q) (((h : Nat) : Int)) (((f : Nat) : Int)) w12) := hide (by rw [← hw12, HV.out]; exact HD11.out.setE HNE.out.2.1 HNE.out.1 _)
                  obtain ⟨-, -, -, y3, -, -⟩ := HD11.out.q.cells
                  have f3 := HD11.out.q.frozen 3
                  go_wp2_with (first | (go_at_call 25; refine (HS2.out _).mono ?_; rintro r w9 ⟨rfl, hw⟩; subst w9))
                  go_meet
                  case rel => exact HD12
                · have h16b : ((d2 : Int) == 16) = false := by rw [beq_eq_false_iff_ne]; omega
                  have HV : Hid (eR Z x q = -1) := hide (by unfold eR; rw [if_neg (fun hh => h16 (by rw [← HD2.out]; exact hh.2))])
                  clear h16
                  go_wp2_with (first | (go_at_call 25; refine (HS2.out _).mono ?_; rintro r w9 ⟨rfl, hw⟩; subst w9))
                  go_meet
                  case rel => exact hide (by rw [HV.out]; exact HD11.out)
              | false =>
                have HV : Hid (eR Z x q = -1) := hide (by
                  unfold eR
                  rw [if_neg (fun hh => by have h1 := hh.1; rw [HZX.out, HKD.out] at h1; have := HPB.out; rw [h1] at this; exact absurd this (by decide))])
                go_wp2_with (first | (go_at_call 25; refine (HS2.out _).mono ?_; rintro r w9 ⟨rfl, hw⟩; subst w9))
                go_meet
                case rel => exact hide (by rw [HV.out]; exact HD11.out)
          case rest =>
            have HD12 := hcut
            clear HD11 hcut
            rename World => w12
            refine (by assumption : ∀ (a : Act) (w : World), Code.wp Tryd.prog _ _ a w → _) _ _ ?_
            apply wp_seq_k
            intro _ _
            obtain ⟨w13, hw13⟩ : ∃ w13, w12.alloc (.cells #[.int .i64 4, .int .i64 4, .int .i64 60, .int .i64 60] 3) = w13 := ⟨_, rfl⟩
            obtain ⟨w14, hw14⟩ : ∃ w14, w13.alloc (.cells #[.int .i64 7, .int .i64 0, .int .i64 63, .int .i64 56] 3) = w14 := ⟨_, rfl⟩
            obtain ⟨kb, hkb⟩ : ∃ kb, w12.heap.size = kb := ⟨_, rfl⟩
            obtain ⟨rk, hrk⟩ : ∃ rk, w13.heap.size = rk := ⟨_, rfl⟩
            have HK4 : Hid (Blk w14 kb 3 [4, 4, 60, 60]) := hide (by rw [← hkb, ← hw14]; refine Blk.old ?_ _; rw [← hw13]; exact Blk.new w12 3 _ _ rfl)
            have HR4 : Hid (Blk w14 rk 3 [7, 0, 63, 56]) := hide (by rw [← hrk, ← hw14]; exact Blk.new w13 3 _ _ rfl)
            have HD14 : Hid (DnP w1 qb rb c' (dnZ Z t e x q n) (T2) (((k : Nat) : Int)) (eR Z x q) (((h : Nat) : Int)) (((f : Nat) : Int)) w14) := hide (HD12.out.mono (by rw [← hw14, ← hw13]; exact ((Below.refl _ _).alloc (Nat.le_refl _) _).alloc (by simp) _))
            have HQK : Hid (qb < kb ∧ kb < rk) := hide (by
              refine ⟨by have := HD12.out.q.lt; omega, ?_⟩
              rw [← hrk, ← hw13, ← hkb]; simp)
            go_upto_region 22 with fail
            clear hw13 hw14 HD12
            try rw [hkb]
            try rw [hrk]
            clear hkb hrk
            have HBW : Hid (∀ W, Keeps (fun j => j = qb) w14 W → Below w1.heap.size w1 W) := hide (fun W hk => HD14.out.b.trans (hk.below HD14.out.b.size (fun j hj e => by have := HNE.out.2.1; omega)))
            have HRK0 : Hid (∀ i, i < 4 → ∀ W, Keeps (fun j => j = qb) w14 W → W.cell? ⟨rk, i, none⟩ = some (.int .i64 (rkP i : Nat))) := hide (fun i hi W hk => by
              have := (HR4.out.keeps hk (fun e => by have := HQK.out; omega)).cell (i := i) (by simp; omega)
              rwa [(kg_at hi).2] at this)
            have HKG0 : Hid (∀ i, i < 4 → ∀ W, Keeps (fun j => j = qb) w14 W → W.cell? ⟨kb, i, none⟩ = some (.int .i64 (kgP i : Nat))) := hide (fun i hi W hk => by
              have := (HK4.out.keeps hk (fun e => by have := HQK.out; omega)).cell (i := i) (by simp; omega)
              rwa [(kg_at hi).1] at this)
            go_wp2_with fail
            go_loopw [12, 13] (fun v _ wr => ∃ i : Nat, v = .int .i64 i ∧ i ≤ 4 ∧ Hid (DnP w1 qb rb c' (dnZ Z t e x q n) (T2) (((kRs (lsR Z t x q) k i : Nat) : Int)) (eR Z x q) (((h : Nat) : Int)) (((f : Nat) : Int)) wr) ∧ Hid (Keeps (fun j => j = qb) w14 wr)) (fun v _ _ => 4 - (intOf v).toNat)
            case atStart => exact ⟨0, rfl, by omega, by rw [kRs_zero]; exact HD14, hide (Keeps.refl _ _)⟩
            case round =>
              obtain ⟨i, rfl, hi, hdp, hkp⟩ := hrel
              by_cases hlt : i < 4
              · have hlt' : (i : Int) < 4 := by omega
                have HX : Hid (∀ W, Keeps (fun _ => False) wr W → Keeps (fun j => j = qb) w14 W) := hide (fun W hW => hkp.out.trans (hW.mono (fun _ _ e => e.elim)))
                have HRK := hide (HRK0.out i hlt)
                have HKG := hide (HKG0.out i hlt)
                have HLS : Hid (lsR Z t x q i = (x == rkP i || q == rkP i || (kd == 6 && i / 2 == t))) := hide (by rw [lsR_eq, HZX.out, HKD.out])
                have HKS := hide (kRs_succ (lsR Z t x q) k i)
                have hK16 := kRs_lt (lsR Z t x q) hk (show i ≤ 4 by omega)
                obtain ⟨ki, hki⟩ : ∃ ki, kgP i = ki := ⟨_, rfl⟩
                obtain ⟨ri, hri⟩ : ∃ ri, rkP i = ri := ⟨_, rfl⟩
                rw [hri] at HRK HLS
                rw [hki] at HKG
                obtain ⟨kr, hkr⟩ : ∃ kr, kRs (lsR Z t x q) k i = kr := ⟨_, rfl⟩
                rw [hkr] at HKS hdp hK16
                obtain ⟨kr', hkr'⟩ : ∃ kr', kRs (lsR Z t x q) k (i + 1) = kr' := ⟨_, rfl⟩
                rw [hkr'] at HKS
                have HKR' := hide hkr'
                obtain ⟨lb, hlb⟩ : ∃ lb, lsR Z t x q i = lb := ⟨_, rfl⟩
                rw [hlb] at HLS HKS
                clear hki hri hkr hkr' hlb
                go_upto_region 25 with fail
                go_cut [13] from 135 to 188 (fun v wc => v = .bool lb ∧ Hid (Keeps (fun _ => False) wr wc))
                case first =>
                  by_cases hb1 : x = ri
                  · as_aux_lemma =>
                    have b1 : ((x : Int) == (ri : Int)) = true := by simp [hb1]
                    have HLB : Hid (lb = true) := hide (by rw [HLS.out]; simp [hb1])
                    clear hb1
                    have m0 := (HM.out wr (HBW.out wr hkp.out)).cell (i := 0) rfl
                    have m1 := (HM.out wr (HBW.out wr hkp.out)).cell (i := 1) rfl
                    have zr := HRK.out wr hkp.out
                    have zk := HKG.out wr hkp.out
                    have x1 := (HP.out wr (HBW.out wr hkp.out)).cells.2.1
                    go_quiet ((go_at_call 25; exact Calls.quiet_of_same (HSX'.out _)))
                    have HSW : Hid (Keeps (fun _ => False) wr (wr.drewN nq)) := hide (Keeps.of_below_no (drewN_below _ _ _))
                    generalize wr.drewN nq = wq at *
                    go_wp2_with fail
                    go_meet
                    case rel => exact ⟨by rw [HLB.out], HSW⟩
                  · by_cases hb2 : q = ri
                    · as_aux_lemma =>
                      have b1 : ((x : Int) == (ri : Int)) = false := by rw [beq_eq_false_iff_ne]; omega
                      have b2 : ((q : Int) == (ri : Int)) = true := by simp [hb2]
                      have HLB : Hid (lb = true) := hide (by rw [HLS.out]; simp [hb2])
                      clear hb1 hb2
                      have m0 := (HM.out wr (HBW.out wr hkp.out)).cell (i := 0) rfl
                      have m1 := (HM.out wr (HBW.out wr hkp.out)).cell (i := 1) rfl
                      have zr := HRK.out wr hkp.out
                      have zk := HKG.out wr hkp.out
                      have x1 := (HP.out wr (HBW.out wr hkp.out)).cells.2.1
                      go_quiet ((go_at_call 25; exact Calls.quiet_of_same (HSX'.out _)))
                      have HSW : Hid (Keeps (fun _ => False) wr (wr.drewN nq)) := hide (Keeps.of_below_no (drewN_below _ _ _))
                      generalize wr.drewN nq = wq at *
                      go_wp2_with fail
                      go_meet
                      case rel => exact ⟨by rw [HLB.out], HSW⟩
                    · by_cases hb3 : kd = 6
                      · by_cases hb4 : i / 2 = t
                        · as_aux_lemma =>
                          have b1 : ((x : Int) == (ri : Int)) = false := by rw [beq_eq_false_iff_ne]; omega
                          have b2 : ((q : Int) == (ri : Int)) = false := by rw [beq_eq_false_iff_ne]; omega
                          have b3 : ((kd : Int) == 6) = true := by simp [hb3]
                          have b4 : ((i : Int) / 2 == T) = true := by rw [beq_iff_eq, ← HTT.out]; omega
                          have HLB : Hid (lb = true) := hide (by rw [HLS.out]; simp [hb3, hb4])
                          clear hb1 hb2 hb3 hb4
                          have m0 := (HM.out wr (HBW.out wr hkp.out)).cell (i := 0) rfl
                          have m1 := (HM.out wr (HBW.out wr hkp.out)).cell (i := 1) rfl
                          have zr := HRK.out wr hkp.out
                          have zk := HKG.out wr hkp.out
                          have x1 := (HP.out wr (HBW.out wr hkp.out)).cells.2.1
                          go_quiet ((go_at_call 25; exact Calls.quiet_of_same (HSX'.out _)))
                          have HSW : Hid (Keeps (fun _ => False) wr (wr.drewN nq)) := hide (Keeps.of_below_no (drewN_below _ _ _))
                          generalize wr.drewN nq = wq at *
                          go_wp2_with fail
                          go_meet
                          case rel => exact ⟨by rw [HLB.out], HSW⟩
                        · as_aux_lemma =>
                          have b1 : ((x : Int) == (ri : Int)) = false := by rw [beq_eq_false_iff_ne]; omega
                          have b2 : ((q : Int) == (ri : Int)) = false := by rw [beq_eq_false_iff_ne]; omega
                          have b3 : ((kd : Int) == 6) = true := by simp [hb3]
                          have b4 : ((i : Int) / 2 == T) = false := by rw [beq_eq_false_iff_ne, ← HTT.out]; omega
                          have HLB : Hid (lb = false) := hide (by rw [HLS.out]; simp [hb1, hb2, hb4])
                          clear hb1 hb2 hb3 hb4
                          have m0 := (HM.out wr (HBW.out wr hkp.out)).cell (i := 0) rfl
                          have m1 := (HM.out wr (HBW.out wr hkp.out)).cell (i := 1) rfl
                          have zr := HRK.out wr hkp.out
                          have zk := HKG.out wr hkp.out
                          have x1 := (HP.out wr (HBW.out wr hkp.out)).cells.2.1
                          go_quiet ((go_at_call 25; exact Calls.quiet_of_same (HSX'.out _)))
                          have HSW : Hid (Keeps (fun _ => False) wr (wr.drewN nq)) := hide (Keeps.of_below_no (drewN_below _ _ _))
                          generalize wr.drewN nq = wq at *
                          go_wp2_with fail
                          go_meet
                          case rel => exact ⟨by rw [HLB.out], HSW⟩
                      · as_aux_lemma =>
                        have b1 : ((x : Int) == (ri : Int)) = false := by rw [beq_eq_false_iff_ne]; omega
                        have b2 : ((q : Int) == (ri : Int)) = false := by rw [beq_eq_false_iff_ne]; omega
                        have b3 : ((kd : Int) == 6) = false := by rw [beq_eq_false_iff_ne]; omega
                        have HLB : Hid (lb = false) := hide (by rw [HLS.out]; simp [hb1, hb2, hb3])
                        clear hb1 hb2 hb3
                        have m0 := (HM.out wr (HBW.out wr hkp.out)).cell (i := 0) rfl
                        have m1 := (HM.out wr (HBW.out wr hkp.out)).cell (i := 1) rfl
                        have zr := HRK.out wr hkp.out
                        have zk := HKG.out wr hkp.out
                        have x1 := (HP.out wr (HBW.out wr hkp.out)).cells.2.1
                        go_quiet ((go_at_call 25; exact Calls.quiet_of_same (HSX'.out _)))
                        have HSW : Hid (Keeps (fun _ => False) wr (wr.drewN nq)) := hide (Keeps.of_below_no (drewN_below _ _ _))
                        generalize wr.drewN nq = wq at *
                        go_wp2_with fail
                        go_meet
                        case rel => exact ⟨by rw [HLB.out], HSW⟩
                case rest =>
                  obtain ⟨rfl, hkw⟩ := hcut
                  rename World => wc
                  have HKC : Hid (Keeps (fun j => j = qb) w14 wc) := hide (HX.out wc hkw.out)
                  have HDC : Hid (DnP w1 qb rb c' (dnZ Z t e x q n) (T2) (((kr : Nat) : Int)) (eR Z x q) (((h : Nat) : Int)) (((f : Nat) : Int)) wc) := hide ⟨hdp.out.q.keeps hkw.out (fun e => e), hdp.out.r.keeps hkw.out (fun e => e), hdp.out.b.trans (hkw.out.below hdp.out.b.size (fun j hj e => e))⟩
                  clear hkw hdp hkp HX
                  refine (by assumption : ∀ (a : Act) (w : World), Code.wp Tryd.prog _ _ a w → _) _ _ ?_
                  apply wp_seq_k
                  intro _ _
                  cases lb with
                  | true =>
                    cases hbt : kr.testBit i with
                    | true =>
                      have hbb : (bits BinOp.and IntKind.i64 (((kr : Nat) : Int) / 2 ^ i) 1 == 1) = true := by rw [bit_shr (by omega) hlt, bitB_nat hK16 hlt, hbt]
                      rw [hbt, if_pos ⟨rfl, rfl⟩] at HKS
                      obtain ⟨kr2, hkr2⟩ : ∃ kr2, kr - 2 ^ i = kr2 := ⟨_, rfl⟩
                      obtain ⟨p2, hp2⟩ : ∃ p2 : Int, IntKind.i64.wrap (2 ^ i) = p2 := ⟨_, rfl⟩
                      have HSB : Hid (IntKind.i64.wrap (((kr : Nat) : Int) - p2) = ((kr - 2 ^ i : Nat) : Int)) := hide (by rw [← hp2, wrap_64 (2 ^ i)]; exact bit_sub hK16 hlt hbt)
                      have HP2 := hide hp2
                      clear hp2
                      rw [hkr2] at HSB HKS
                      clear hkr2 hbt
                      have HK : Hid (kRs (lsR Z t x q) k (i + 1) = kr2) := hide (HKR'.out.trans HKS.out)
                      obtain ⟨-, -, y2, -, -, -⟩ := HDC.out.q.cells
                      go_upto_region 27 with fail
                      clear hbb y2
                      refine wp_region_held (S := fun W5 => Keeps (fun j => j = qb) wc W5) (by kernel_rfl) ?_
                      change wpAnyH _ _ _ _ _ _ _ _ (World.drew _)
                      have SW : (fun W5 => Keeps (fun j => j = qb) wc W5) wc.drew := (Keeps.refl _ _).drew
                      have QD : Ch wc.drew qb (some ⟨rb, 0, none⟩) 64 c' T2 ((kr : Nat) : Int) (eR Z x q) ((h : Nat) : Int) ((f : Nat) : Int) := HDC.out.q.below (drewN_below _ _ 1) HDC.out.q.lt
                      generalize wc.drew = wd at *
                      refine wpAnyH_take (i := 0) (v := .pointer (some ⟨qb, 2, none⟩)) rfl (by kernel_rfl) (by kernel_rfl) (by kernel_rfl) (fun _ _ _ h => h) (Or.inl ⟨by rfl, ?_⟩) SW ?_
                      · intro W5 hW5
                        go_simp <;> first | done | rfl | (rw [IntKind.wrap_i64]; omega) | omega
                      go_simp
                      refine wpAnyH_take (i := 2) (v := .int .i64 (i : Nat)) rfl (by kernel_rfl) (by kernel_rfl) (by kernel_rfl) (fun _ _ _ h => h) (Or.inl ⟨by rfl, ?_⟩) SW ?_
                      · intro W5 hW5
                        go_simp <;> first | done | rfl | (rw [IntKind.wrap_i64]; omega) | omega
                      go_simp
                      refine wpAnyH_take (i := 3) (v := .int .i64 p2) rfl (by kernel_rfl) (by kernel_rfl) (by kernel_rfl) (fun _ _ _ h => h) (Or.inl ⟨by rfl, ?_⟩) SW ?_
                      · intro W5 hW5
                        have y0 := HP2.out
                        go_simp <;> first | done | rfl | (rw [IntKind.wrap_i64]; omega) | omega
                      go_simp
                      obtain ⟨-, -, y2, -, -, -⟩ := QD.cells
                      have f2 := QD.frozen 2
                      refine wpAnyH_ready (rs := [1]) (by kernel_rfl) (by simp) ?_
                      refine AllReadyH.cons rfl (fun K1 hK1 => ?_) AllReadyH.nil
                      go_simp
                      refine hK1.out _ _ SW (fun SW => ?_)
                      clear hK1 K1 y2
                      go_simp
                      refine wpAnyH_take (i := 4) (v := .int .i64 ((kr2 : Nat) : Int)) rfl (by kernel_rfl) (by kernel_rfl) (by kernel_rfl) (fun _ _ _ h => h) (Or.inl ⟨by rfl, ?_⟩) SW ?_
                      · intro W5 hW5
                        have y0 := HSB.out
                        go_simp <;> first | done | rfl | (rw [IntKind.wrap_i64]; omega) | omega
                      go_simp
                      refine wpAnyH_take (i := 5) (v := .pointer (some ⟨qb, 2, none⟩)) rfl (by kernel_rfl) (by kernel_rfl) (by kernel_rfl) (fun _ _ _ h => h) (Or.inl ⟨by rfl, ?_⟩) SW ?_
                      · intro W5 hW5
                        go_simp <;> first | done | rfl | (rw [IntKind.wrap_i64]; omega) | omega
                      go_simp
                      obtain ⟨-, -, y2, -, -, -⟩ := QD.cells
                      refine wpAnyH_ready (rs := [6]) (by kernel_rfl) (by simp) ?_
                      refine AllReadyH.cons rfl (fun K1 hK1 => ?_) AllReadyH.nil
                      go_simp
                      refine hK1.out _ _ (SW.trans (Keeps.set1 _ _ _ _)) (fun SW => ?_)
                      clear hK1 K1 y2 f2
                      have QE := QD.setK ((kr2 : Nat) : Int)
                      generalize wd.setCell ⟨qb, 2, none⟩ (.int .i64 ((kr2 : Nat) : Int)) = we at *
                      clear QD
                      go_simp
                      refine wpAnyH_done (by kernel_rfl) ?_ _
                      have HDE : Hid (DnP w1 qb rb c' (dnZ Z t e x q n) (T2) (((kr2 : Nat) : Int)) (eR Z x q) (((h : Nat) : Int)) (((f : Nat) : Int)) we) := hide ⟨QE, HDC.out.r.keeps SW (fun e => HNE.out.1 e.symm), HDC.out.b.trans (SW.below HDC.out.b.size (fun j hj e => by have := HNE.out.2.1; omega))⟩
                      have HKE : Hid (Keeps (fun j => j = qb) w14 we) := hide (HKC.out.trans SW)
                      clear SW QE
                      go_wp2_with fail
                      exact ⟨⟨i + 1, by go_num, by omega, by rw [HK.out]; exact HDE, HKE⟩, by simp [intOf]; omega⟩
                    | false =>
                      have hbb : (bits BinOp.and IntKind.i64 (((kr : Nat) : Int) / 2 ^ i) 1 == 1) = false := by rw [bit_shr (by omega) hlt, bitB_nat hK16 hlt, hbt]
                      rw [hbt, if_neg (by simp)] at HKS
                      clear hbt
                      have HK : Hid (kRs (lsR Z t x q) k (i + 1) = kr) := hide (HKR'.out.trans HKS.out)
                      obtain ⟨-, -, y2, -, -, -⟩ := HDC.out.q.cells
                      go_wp2_with fail
                      exact ⟨⟨i + 1, by go_num, by omega, by rw [HK.out]; exact HDC, HKC⟩, by simp [intOf]; omega⟩
                  | false =>
                    rw [if_neg (by simp)] at HKS
                    have HK : Hid (kRs (lsR Z t x q) k (i + 1) = kr) := hide (HKR'.out.trans HKS.out)
                    go_wp2_with fail
                    exact ⟨⟨i + 1, by go_num, by omega, by rw [HK.out]; exact HDC, HKC⟩, by simp [intOf]; omega⟩
              · obtain rfl : i = 4 := by omega
                have HDA : Hid (DnP w1 qb rb c' (dnZ Z t e x q n) (T2) (((kR Z t k x q : Nat) : Int)) (eR Z x q) (((h : Nat) : Int)) (((f : Nat) : Int)) wr) := hide (by unfold kR; exact hdp.out)
                clear hdp hkp hlt hi
                go_upto_region 28 with fail
                go_cut [] from 9 to 192 (fun wc => Hid (DnP w1 qb rb c' (dnZ Z t e x q n) (T2) (((kR Z t k x q : Nat) : Int)) (eR Z x q) (((h + 1 : Nat) : Int)) (((f : Nat) : Int)) wc))
                case first =>
                  as_aux_lemma =>
                    obtain ⟨w20, hw20⟩ : ∃ w20, wr.setCell ⟨qb, 4, none⟩ (.int .i64 ((h + 1 : Nat) : Int)) = w20 := ⟨_, rfl⟩
                    have hh1 : IntKind.i64.wrap (((h : Nat) : Int) + 1) = ((h + 1 : Nat) : Int) := by rw [IntKind.wrap_i64]; omega
                    have HD20 : Hid (DnP w1 qb rb c' (dnZ Z t e x q n) (T2) (((kR Z t k x q : Nat) : Int)) (eR Z x q) (((h + 1 : Nat) : Int)) (((f : Nat) : Int)) w20) := hide (by rw [← hw20]; exact HDA.out.setH HNE.out.2.1 HNE.out.1 _)
                    obtain ⟨h1, hh1'⟩ : ∃ h1, h + 1 = h1 := ⟨_, rfl⟩
                    rw [hh1'] at hw20 hh1 HD20
                    have HH1 := hide hh1'
                    clear hh1'
                    obtain ⟨-, -, -, -, y4, -⟩ := HDA.out.q.cells
                    have f4 := HDA.out.q.frozen 4
                    go_wp2_with fail
                    go_meet
                    case rel => exact hide (by rw [HH1.out]; exact HD20.out)
                case rest =>
                  have HD20 := hcut
                  clear HDA hcut
                  rename World => w20
                  refine (by assumption : ∀ (a : Act) (w : World), Code.wp Tryd.prog _ _ a w → _) _ _ ?_
                  apply wp_seq_k
                  intro _ _
                  obtain ⟨h1, hh1'⟩ : ∃ h1, h + 1 = h1 := ⟨_, rfl⟩
                  rw [hh1'] at HD20
                  go_cut [] from 9 to 196 (fun wc => Hid (DnP w1 qb rb c' (dnZ Z t e x q n) (T2) (((kR Z t k x q : Nat) : Int)) (eR Z x q) (((min (h + 1) 999 : Nat) : Int)) (((f : Nat) : Int)) wc))
                  case first =>
                    as_aux_lemma =>
                      obtain ⟨-, -, -, -, y4, -⟩ := HD20.out.q.cells
                      have f4 := HD20.out.q.frozen 4
                      by_cases h9 : h1 > 999
                      · have h9' : ((h1 : Nat) : Int) > 999 := by omega
                        have HV : Hid (((min (h + 1) 999 : Nat) : Int) = 999) := hide (by omega)
                        obtain ⟨w21, hw21⟩ : ∃ w21, w20.setCell ⟨qb, 4, none⟩ (.int .i64 999) = w21 := ⟨_, rfl⟩
                        have HD21 : Hid (DnP w1 qb rb c' (dnZ Z t e x q n) (T2) (((kR Z t k x q : Nat) : Int)) (eR Z x q) (((min (h + 1) 999 : Nat) : Int)) (((f : Nat) : Int)) w21) := hide (by rw [← hw21, HV.out]; exact HD20.out.setH HNE.out.2.1 HNE.out.1 _)
                        clear h9 hh1'
                        go_wp2_with fail
                        go_meet
                        case rel => exact HD21
                      · have h9' : ¬ ((h1 : Nat) : Int) > 999 := by omega
                        have HV : Hid (min (h + 1) 999 = h1) := hide (by omega)
                        clear h9 hh1'
                        go_wp2_with fail
                        go_meet
                        case rel => exact hide (by rw [HV.out]; exact HD20.out)
                  case rest =>
                    have HD21 := hcut
                    clear HD20 hcut hh1'
                    rename World => w21
                    refine (by assumption : ∀ (a : Act) (w : World), Code.wp Tryd.prog _ _ a w → _) _ _ ?_
                    apply wp_seq_k
                    intro _ _
                    obtain ⟨h2, hh2⟩ : ∃ h2, min (h + 1) 999 = h2 := ⟨_, rfl⟩
                    rw [hh2] at HD21
                    have HH2 := hide hh2
                    clear hh2
                    go_cut [] from 9 to 207 (fun wc => Hid (DnP w1 qb rb c' (dnZ Z t e x q n) (T2) (((kR Z t k x q : Nat) : Int)) (eR Z x q) (((hfN Z h x q : Nat) : Int)) (((f : Nat) : Int)) wc))
                    case first =>
                      as_aux_lemma =>
                        obtain ⟨-, -, -, -, y4, -⟩ := HD21.out.q.cells
                        have f4 := HD21.out.q.frozen 4
                        obtain ⟨w22, hw22⟩ : ∃ w22, w21.setCell ⟨qb, 4, none⟩ (.int .i64 0) = w22 := ⟨_, rfl⟩
                        have HD22 : Hid (DnP w1 qb rb c' (dnZ Z t e x q n) (T2) (((kR Z t k x q : Nat) : Int)) (eR Z x q) (0) (((f : Nat) : Int)) w22) := hide (by rw [← hw22]; exact HD21.out.setH HNE.out.2.1 HNE.out.1 _)
                        cases pb with
                        | true =>
                          have HV : Hid (hfN Z h x q = 0) := hide (by unfold hfN; rw [if_pos (Or.inl (by rw [HZX.out, HKD.out]; exact beq_iff_eq.1 HPB.out))])
                          go_wp2_with fail
                          go_meet
                          case rel => exact hide (by rw [HV.out]; exact HD22.out)
                        | false =>
                          have hk1 : kd ≠ 1 := fun e0 => by have := HPB.out; rw [e0] at this; exact absurd this (by decide)
                          obtain ⟨x0, -, -, -, -, -⟩ := (HP.out w21 HD21.out.b).cells
                          have m1 := (HM.out w21 HD21.out.b).cell (i := 1) rfl
                          have zq := HC.out w21 HD21.out.b q hq
                          by_cases h0 : zg Z q = 0
                          · rw [h0] at zq
                            have HV : Hid (hfN Z h x q = h2) := hide (by unfold hfN; rw [if_neg (fun hh => by rcases hh with hh | hh; exact hk1 (by rw [← HKD.out, ← HZX.out]; exact hh); exact hh h0), HH2.out])
                            clear h0 hk1
                            go_wp2_with fail
                            go_meet
                            case rel => exact hide (by rw [HV.out]; exact HD21.out)
                          · have HV : Hid (hfN Z h x q = 0) := hide (by unfold hfN; rw [if_pos (Or.inr h0)])
                            obtain ⟨zv, hzv⟩ : ∃ zv, zg Z q = zv := ⟨_, rfl⟩
                            rw [hzv] at zq h0
                            have h0b : (zv != 0) = true := by simp [h0]
                            clear h0 hk1 hzv
                            go_wp2_with fail
                            go_meet
                            case rel => exact hide (by rw [HV.out]; exact HD22.out)
                    case rest =>
                      have HD22 := hcut
                      clear HD21 hcut
                      rename World => w22
                      refine (by assumption : ∀ (a : Act) (w : World), Code.wp Tryd.prog _ _ a w → _) _ _ ?_
                      apply wp_seq_k
                      intro _ _
                      obtain ⟨h3, hh3⟩ : ∃ h3, hfN Z h x q = h3 := ⟨_, rfl⟩
                      rw [hh3] at HD22
                      have HH3 := hide hh3
                      clear hh3
                      go_cut [] from 9 to 219 (fun wc => Hid (DnP w1 qb rb c' (dnZ Z t e x q n) (T2) (((kR Z t k x q : Nat) : Int)) (eR Z x q) (((h3 : Nat) : Int)) (((fuN t f : Nat) : Int)) wc))
                      case first =>
                        as_aux_lemma =>
                          obtain ⟨-, x1, -, -, -, -⟩ := (HP.out w22 HD22.out.b).cells
                          obtain ⟨-, -, -, -, -, y5⟩ := HD22.out.q.cells
                          have f5 := HD22.out.q.frozen 5
                          by_cases h1 : t = 1
                          · have h1b : (T == 1) = true := by rw [beq_iff_eq, ← HTT.out]; omega
                            by_cases h9 : f < 999
                            · have h9' : ((f : Nat) : Int) < 999 := by omega
                              obtain ⟨f1, hf1⟩ : ∃ f1, f + 1 = f1 := ⟨_, rfl⟩
                              have hff : IntKind.i64.wrap (((f : Nat) : Int) + 1) = ((f1 : Nat) : Int) := by rw [IntKind.wrap_i64]; omega
                              have HV : Hid (fuN t f = f1) := hide (by unfold fuN; rw [if_pos h1]; omega)
                              clear h1 h9 hf1
                              obtain ⟨w23, hw23⟩ : ∃ w23, w22.setCell ⟨qb, 5, none⟩ (.int .i64 ((f1 : Nat) : Int)) = w23 := ⟨_, rfl⟩
                              have HD23 : Hid (DnP w1 qb rb c' (dnZ Z t e x q n) (T2) (((kR Z t k x q : Nat) : Int)) (eR Z x q) (((h3 : Nat) : Int)) (((f1 : Nat) : Int)) w23) := hide (by rw [← hw23]; exact HD22.out.setF HNE.out.2.1 HNE.out.1 _)
                              go_wp2_with fail
                              go_meet
                              case rel => exact hide (by rw [HV.out]; exact HD23.out)
                            · have h9' : ¬ ((f : Nat) : Int) < 999 := by omega
                              have HV : Hid (fuN t f = f) := hide (by unfold fuN; rw [if_pos h1]; omega)
                              clear h1 h9
                              go_wp2_with fail
                              go_meet
                              case rel => exact hide (by rw [HV.out]; exact HD22.out)
                          · have h1b : (T == 1) = false := by rw [beq_eq_false_iff_ne, ← HTT.out]; omega
                            have HV : Hid (fuN t f = f) := hide (by unfold fuN; rw [if_neg h1])
                            clear h1
                            go_wp2_with fail
                            go_meet
                            case rel => exact hide (by rw [HV.out]; exact HD22.out)
                      case rest =>
                        have HD23 := hcut
                        clear HD22 hcut
                        rename World => w23
                        refine (by assumption : ∀ (a : Act) (w : World), Code.wp Tryd.prog _ _ a w → _) _ _ ?_
                        apply wp_seq_k
                        intro _ _
                        have HE : Hid (Ch w23 (g + 2) none 0 0 0 0 0 0 0) := hide (HR2.out w23 HD23.out.b)
                        obtain ⟨f2, hf2⟩ : ∃ f2, fuN t f = f2 := ⟨_, rfl⟩
                        rw [hf2] at HD23
                        have HF2 := hide hf2
                        obtain ⟨k2, hk2⟩ : ∃ k2, kR Z t k x q = k2 := ⟨_, rfl⟩
                        rw [hk2] at HD23
                        have HK2 := hide hk2
                        obtain ⟨e2, he2⟩ : ∃ e2, eR Z x q = e2 := ⟨_, rfl⟩
                        rw [he2] at HD23
                        have HE2 := hide he2
                        clear hf2 hk2 he2
                        go_wp2_with (first
                          | refine wpList_load_ch rfl (.tmp 5) rfl qb rfl HD23.out.q ?_
                          | (refine wpList_store_ch rfl (.tmp 4) (.tmp 220) rfl (g + 2) rfl rfl HE.out ?_; intro w6 k6 kk6))
                        refine bodyPost_ret (results_ch rfl _ _ (g + 2) rfl k6) rfl ⟨rb, c', ?_, ?_, ?_, ?_, ?_, ?_⟩
                        · rw [HT2.out, HK2.out, HE2.out, HH3.out, HF2.out]
                        · exact HD23.out.r.keeps kk6 (fun e => by have := HNE.out.2.2.1; have := HS1.out; omega)
                        · have := HNE.out.2.2.1; have := HS1.out; omega
                        · exact HNE.out.2.2.2.1
                        · exact HNE.out.2.2.2.2
                        · rw [← HG.out]
                          have B23 := HB1.out.trans (HD23.out.b.mono HB1.out.size)
                          exact B23.trans (kk6.below B23.size (fun j hj e => by have := HG.out; omega))



end Go.Proofs.YtdmlamnonbmboaaDoor
