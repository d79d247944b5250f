/-
  Chess: the document's list of all moves, walked. No conditions beyond those that each theorem bears.
-/
import Derived.Test.YtdmlamnonbmboaaDoorQ38
import Derived.Test.YtdmlamnonbmboaaDoorQ39
import Derived.Test.YtdmlamnonbmboaaDoorQ41
import Derived.Test.YtdmlamnonbmboaaDoorQ40
import Derived.Test.YtdmlamnonbmboaaDoorQ34
import Derived.BigQuiet
namespace Go.Proofs.YtdmlamnonbmboaaDoor
open Go.RowKit Go.Shelf

theorem own_mono26 {w w' : World} {base n : Nat} {v : Value} {xs : List Value} (h : w.ownsRow base 42 3 v n xs) (hb : Below w.heap.size w w') : w'.ownsRow base 42 3 v n xs :=
  own_blk26 h (fun g hg => hb.block g (own_lt26 h hg).2)
theorem grown_below {w0 w w' : World} {g n : Nat} {v : Value} {xs : List Value} (hb : Below g w0 w) (hO : w.ownsRow g 42 3 v n xs) (hg : w.grownBy w' v.ownBlock) (hs : g ≤ w.heap.size) : Below g w0 w' :=
  hb.grown hg hs (fun _ hq => (own_lt26 hO hq).1)
/-- A pawn's moves to a place at the edge, the first so many. -/
def pmL (f q : Nat) : Nat → List (Nat × Nat × Nat)
  | 0 => []
  | s + 1 => pmL f q s ++ [(f, q, 2 + s)]
theorem pmL_len (f q : Nat) : ∀ s, (pmL f q s).length = s
  | 0 => rfl
  | s + 1 => by rw [pmL, List.length_append, pmL_len f q s]; rfl
theorem rowQ_no {Z : List Int} {t : Nat} {k e : Int} {K f q : Nat} (h : lgR Z t k e K f q = false) : rowQ Z t k e K f q = [] := by unfold rowQ; rw [h]; rfl
theorem rowQ_pawn {Z : List Int} {t : Nat} {k e : Int} {K f q : Nat} (h : lgR Z t k e K f q = true) (h1 : (zg Z f).natAbs = 1) (h2 : edge (q : Int) = true) : rowQ Z t k e K f q = pmL f q 4 := by
  unfold rowQ inB; rw [if_pos h, if_pos ⟨h1, h2⟩]; rfl
theorem rowQ_one {Z : List Int} {t : Nat} {k e : Int} {K f q : Nat} (h : lgR Z t k e K f q = true) (h1 : ¬ ((zg Z f).natAbs = 1 ∧ edge (q : Int) = true)) : rowQ Z t k e K f q = [(f, q, 0)] := by
  unfold rowQ inB; rw [if_pos h, if_neg h1]; rfl
theorem lgR_of {Z : List Int} {t : Nat} {k e : Int} {K f q : Nat} (h : okR Z t k e f q = false) : lgR Z t k e K f q = false := by unfold lgR; rw [h]; rfl
theorem own_sdB {Z : List Int} {t f : Nat} (ht : t ≤ 1) : (sd (zg Z f) == (t : Int)) = ownB Z t f := by
  cases ho : ownB Z t f with
  | true => rw [beq_iff_eq]; exact own_sd ht ho
  | false =>
    rw [beq_eq_false_iff_ne]
    intro e
    have h1 := of_decide_eq_false ho
    unfold sd at e
    unfold pci at h1
    rcases (show t = 0 ∨ t = 1 by omega) with rfl | rfl
    · rw [if_pos rfl] at h1
      split at e
      · omega
      · split at e <;> omega
    · rw [if_neg (by decide)] at h1
      split at e
      · omega
      · split at e <;> omega

section
variable (a : Option Addr) (c : Nat) (p : Ps) (hM : MayP p)
include hM
/-- What a move makes of the position, and whether one's own king is attacked there. -/
theorem done_any (w : World) (hR : Rd w a 64 c p.Z) (f q : Nat) (hf : f < 64) (hq : q < 64) (ho : ownB p.Z p.t f = true) (hg : okR p.Z p.t (p.k : Nat) p.e f q = true) :
    Calls Tryd.prog 30 #[.agg (chP a c p), .agg #[.int .i64 (f : Nat), .int .i64 (q : Nat), .int .i64 0]] w fun r w' => ∃ rb c' T K E H F, r = .returned (.agg (chA (some ⟨rb, 0, none⟩) 64 c' T K E H F)) ∧ Rd w' (some ⟨rb, 0, none⟩) 64 c' (dnZ p.Z p.t p.e f q 0) ∧ Below w.heap.size w w' := by
  have hto := tg_ok hM.t1 hM.st hM.pas (k := (p.k : Nat)) hf hq ho
  rw [← hto] at hg
  have k16 : p.k < 16 := by have := hM.k15; omega
  have h1 := MoveDone_any a c p.Z p.t p.k p.e p.h p.f hM.st.pz hM.t1 k16 hM.h9 hM.f9.2 f q 0 hf hq (by omega) (fun htk => by
    have hta := tk_at hM.t1 hM.st hM.pas hf hq ho hg htk
    exact ⟨hta.2.2.1, bk_nat hM.t1 hM.pas hta.1⟩) w hR
  refine h1.mono ?_
  rintro r w' ⟨rb, c', rfl, hm, -, h64, hmx, hb⟩
  exact ⟨rb, c', _, _, _, _, _, rfl, hm.rd h64 hmx, hb⟩
theorem safe_any (f q : Nat) (hf : f < 64) (hq : q < 64) (ho : ownB p.Z p.t f = true) (hg : okR p.Z p.t (p.k : Nat) p.e f q = true) (w : World) (a' : Option Addr) (c' : Nat) (hR : Rd w a' 64 c' (dnZ p.Z p.t p.e f q 0)) :
    Calls Tryd.prog 26 #[.slice a' 64 c', .int .i64 (p.t : Nat)] w fun r w' => r = .returned (.bool (!(lgR p.Z p.t (p.k : Nat) p.e (kf p.Z p.t) f q))) ∧ Below w.heap.size w w' := by
  have hto := tg_ok hM.t1 hM.st hM.pas (k := (p.k : Nat)) hf hq ho
  have hgt := hg
  rw [← hto] at hgt
  have hdn := dn_eq (n := 0) (e := p.e) hM.st hM.cas hf hq ho hgt
  have hkg := kg_zero hM.t1 hM.st hM.cas hM.pas (kf_kg hM.st p.t) hf hq ho hgt
  have hpz := pz_of (t := p.t) (e := p.e) (f := f) (q := q) (n := 0) hM.st (by omega)
  have h1 : lgR p.Z p.t (p.k : Nat) p.e (kf p.Z p.t) f q = !(decide (atL (dnZ p.Z p.t p.e f q 0) (kgA (kf p.Z p.t) f q) (1 - p.t) ≠ [])) := by
    unfold lgR; rw [hg, Bool.true_and]
  rw [h1, Bool.not_not]
  rw [hdn] at hR ⊢
  exact InCheckR_any a' c' _ p.t _ hM.t1 hkg.fst hpz w hR
end

attribute [local irreducible] rowA rowF rowQ okR lgR goR okN ctI ownB mvs kf atL kgA dnZ

set_option maxRecDepth 100000 in
set_option maxHeartbeats 16000000 in
theorem MovesAll_any (a : Option Addr) (c : Nat) (p : Ps) (hM : MayP p) (w : World) (hR : Rd w a 64 c p.Z) :
    Calls Tryd.prog 28 #[.agg (chP a c p)] w fun r w' => ∃ ad cp, r = .returned (.slice ad (mvs p).length cp) ∧ w'.ownsRow w.heap.size 42 3 (.slice ad (mvs p).length cp) (mvs p).length (flM (mvs p)) ∧ Below w.heap.size w w' := by
  obtain ⟨Z, hZ⟩ : ∃ Z, p.Z = Z := ⟨_, rfl⟩
  obtain ⟨t, ht⟩ : ∃ t, p.t = t := ⟨_, rfl⟩
  obtain ⟨k, hk⟩ : ∃ k : Int, ((p.k : Nat) : Int) = k := ⟨_, rfl⟩
  obtain ⟨e, he⟩ : ∃ e, p.e = e := ⟨_, rfl⟩
  obtain ⟨h, hh⟩ : ∃ h : Int, ((p.h : Nat) : Int) = h := ⟨_, rfl⟩
  obtain ⟨F, hF⟩ : ∃ F : Int, ((p.f : Nat) : Int) = F := ⟨_, rfl⟩
  obtain ⟨K, hK⟩ : ∃ K, kf Z t = K := ⟨_, rfl⟩
  have k15 := hM.k15
  have HRA := hide (mvs_rowA hM)
  have HMD := hide (fun f q hf hq ho hg W hR => done_any a c p hM W hR f q hf hq ho hg)
  have HSF := hide (fun f q hf hq ho hg W a' c' hR => safe_any p hM f q hf hq ho hg W a' c' hR)
  have HMG := hide (fun f q hf hq W hR => mayGo_any a c p.Z p.t (p.k : Nat) p.e (p.h : Nat) (p.f : Nat) hM.t1 hM.st.pz f q hf hq W hR)
  have HCT := hide (fun n hn W hR => castleTo_any a c p.Z p.t (p.k : Nat) p.e (p.h : Nat) (p.f : Nat) hM.t1 ⟨by omega, by omega⟩ hM.st.pz n hn W hR)
  have HOW := hide (fun f => own_sdB (Z := p.Z) (f := f) hM.t1)
  have HOK4 := hide (fun f q => okN_four (Z := p.Z) hM.t1 hM.st.pz (p.k : Nat) p.e f q)
  have HPZ := hide hM.st.pz
  have HT1 := hide hM.t1
  rw [hZ] at HPZ
  rw [hZ, ht] at HOW
  simp only [hZ, ht, hk, he, hh, hF] at HRA HMD HSF HMG HCT HOK4
  rw [hK] at HRA
  simp only [hK] at HSF
  rw [hZ] at hR
  rw [show chP a c p = chA a 64 c (t : Nat) k e h F by rw [← ht, ← hk, ← he, ← hh, ← hF]] at *
  rw [ht] at HT1
  clear hM hZ hk he hh hF hK k15
  obtain ⟨XS, hXS⟩ : ∃ XS, mvs p = XS := ⟨_, rfl⟩
  rw [hXS] at HRA ⊢
  clear hXS ht
  obtain ⟨g, hg⟩ : ∃ g, w.heap.size = g := ⟨_, rfl⟩
  obtain ⟨w1, hw1⟩ : ∃ w1, w.alloc (.cells (chA a 64 c (t : Nat) k e h F) 24) = w1 := ⟨_, rfl⟩
  have B1 : Below g w w1 := by rw [← hw1, ← hg]; exact (Below.refl _ w).alloc (Nat.le_refl _) _
  have C1 : Ch w1 g a 64 c (t : Nat) k e h F := by rw [← hw1, ← hg]; exact Ch.new w a 64 c _ _ _ _ _
  have s1 : w1.heap.size = g + 1 := by rw [← hw1, ← hg]; simp
  have hR1 := hR.mono (by rw [hg]; exact B1)
  have hcm := hR1.max
  unfold maxLen at hcm
  have hcc := hR1.cap
  obtain ⟨pb, po, rfl, hcl⟩ := hR1.cells (by omega)
  have HB1 := hide B1
  have HS1 := hide s1
  have HRW : Hid (∀ W, Below (g + 1) w1 W → Rd W (some ⟨pb, po, none⟩) 64 c Z) := hide (fun W hb => hR1.mono (by rw [s1]; exact hb))
  have HP : Hid (∀ W, Below (g + 1) w1 W → Ch W g (some ⟨pb, po, none⟩) 64 c (t : Nat) k e h F) := hide (fun W hb => C1.below hb (by omega))
  have HC : Hid (∀ W, Below (g + 1) w1 W → ∀ i, i < 64 → W.cell? ⟨pb, po + i, none⟩ = some (.int .i64 (zg Z i))) := hide (fun W hb i hi => (hb.cell (p := ⟨pb, po + i, none⟩) (by have := World.block_lt_of_cell? w1 _ (hcl i hi); omega)).trans (hcl i hi))
  have HG := hide hg
  clear B1 C1 s1 hR hR1 hcl
  try rw [hg]
  go_enter Tryd.func28, Tryd.ntmps28
  go_upto_region 1 with fail
  try rw [hg]
  clear hw1 hg
  go_wp2_with fail
  go_loopw [3, 4, 5, 6, 7, 8] (fun l x _ _ _ _ wr => ∃ (i m cp : Nat) (ad : Option Addr) (L : List (Nat × Nat × Nat)), x = .int .i64 i ∧ i ≤ 64 ∧ l = .slice ad m cp ∧ m ≤ i * 256 ∧ Hid (rowA Z t k e K i = L ∧ L.length = m) ∧ Hid (wr.ownsRow (g + 1) 42 3 (.slice ad m cp) m (flM L)) ∧ Hid (Below (g + 1) w1 wr)) (fun _ x _ _ _ _ _ => 64 - (intOf x).toNat)
  case atStart => exact ⟨0, 0, 0, none, [], rfl, by omega, rfl, by omega, hide ⟨rowA_zero _ _ _ _ _, rfl⟩, hide (World.ownsRow_nil _ _ _ _), hide (Below.refl _ _)⟩
  case round =>
    obtain ⟨i, m, cp, ad, L, rfl, hi, rfl, hm, hL, hO, hb⟩ := hrel
    by_cases hlt : i < 64
    · have hlt' : (i : Int) < 64 := by omega
      obtain ⟨x0, x1, -, -, -, -⟩ := (HP.out wr hb.out).cells
      have zi := HC.out wr hb.out i hlt
      have HPS := hide (fun W => pieceSide_any (zg Z i) W)
      have hsd := HOW.out i
      obtain ⟨sz, hsz⟩ : ∃ sz, sd (zg Z i) = sz := ⟨_, rfl⟩
      rw [hsz] at HPS hsd
      clear hsz
      cases ho : ownB Z t i with
      | false =>
        rw [ho] at hsd
        have hsd' : (sz != ((t : Nat) : Int)) = true := by rw [bne, hsd]; rfl
        have HNO := hide ho
        clear hsd
        go_upto_region 5 with fail
        go_quiet ((go_at_call 54; exact Calls.quiet_of_same (HPS.out _)))
        have HB5 : Hid (Below (g + 1) w1 (wr.drewN nq)) := hide (hb.out.trans (drewN_below _ _ _))
        have hO5 : Hid ((wr.drewN nq).ownsRow (g + 1) 42 3 (.slice ad m cp) m (flM L)) := hide (own_mono26 hO.out (drewN_below _ _ _))
        generalize wr.drewN nq = w5 at *
        go_wp2_with fail
        exact ⟨⟨i + 1, m, cp, ad, L, by go_num, by omega, rfl, by omega, hide ⟨by rw [rowA_succ, HNO.out, if_neg (by decide), List.append_nil]; exact hL.out.1, hL.out.2⟩, hO5, HB5⟩, by simp [intOf]; omega⟩
      | true =>
        rw [ho] at hsd
        have hsd' : (sz != ((t : Nat) : Int)) = false := by rw [bne, hsd]; rfl
        have HO := hide ho
        clear hsd
        go_upto_region 5 with fail
        go_quiet ((go_at_call 54; exact Calls.quiet_of_same (HPS.out _)))
        have HB5 : Hid (Below (g + 1) w1 (wr.drewN nq)) := hide (hb.out.trans (drewN_below _ _ _))
        have hO5 : Hid ((wr.drewN nq).ownsRow (g + 1) 42 3 (.slice ad m cp) m (flM L)) := hide (own_mono26 hO.out (drewN_below _ _ _))
        generalize wr.drewN nq = w5 at *
        clear x0 x1 zi hb hO hsd' HPS ho
        go_wp2_with fail
        go_loopw [3, 5, 6, 7, 8] (fun l x _ _ _ wr => ∃ (j n cp : Nat) (ad : Option Addr) (M : List (Nat × Nat × Nat)), x = .int .i64 j ∧ j ≤ 64 ∧ l = .slice ad n cp ∧ n ≤ m + j * 4 ∧ Hid (rowF Z t k e K i j = M ∧ (L ++ M).length = n) ∧ Hid (wr.ownsRow (g + 1) 42 3 (.slice ad n cp) n (flM (L ++ M))) ∧ Hid (Below (g + 1) w1 wr)) (fun _ x _ _ _ _ => 64 - (intOf x).toNat)
        case atStart => exact ⟨0, m, cp, ad, [], rfl, by omega, rfl, by omega, hide ⟨rowF_zero _ _ _ _ _ _, by rw [List.append_nil]; exact hL.out.2⟩, by rw [List.append_nil]; exact hO5, HB5⟩
        case round =>
          clear hO5 HB5
          obtain ⟨j, n, cp', ad', M, rfl, hj, rfl, hn, hM, hO, hb⟩ := hrel
          by_cases hjt : j < 64
          · have hjt' : (j : Int) < 64 := by omega
            have HMGj := hide (HMG.out i j hlt hjt)
            have HMDj := hide (HMD.out i j hlt hjt HO.out)
            have HSFj := hide (HSF.out i j hlt hjt HO.out)
            have HQ := hide (rowF_succ Z t k e K i j)
            have HOK0 := hide (okN_zero Z t k e i j)
            have HOKS := hide (fun n h6 => okN_succ (Z := Z) (t := t) (k := k) (e := e) (f := i) (q := j) (n := n) h6)
            have HOKN := hide (fun h6 => okN_no (Z := Z) (t := t) (k := k) (e := e) (f := i) (q := j) h6)
            have HOKF := hide (HOK4.out i j)
            have HQN := hide (fun h => rowQ_no (Z := Z) (t := t) (k := k) (e := e) (K := K) (f := i) (q := j) h)
            have HQP := hide (fun h h1 h2 => rowQ_pawn (Z := Z) (t := t) (k := k) (e := e) (K := K) (f := i) (q := j) h h1 h2)
            have HQ1 := hide (fun h h1 => rowQ_one (Z := Z) (t := t) (k := k) (e := e) (K := K) (f := i) (q := j) h h1)
            have hpz := HPZ.out.2 i
            have HSZ := hide (size_any (zg Z i) (by omega) (by omega))
            obtain ⟨kd, hkd⟩ : ∃ kd, (zg Z i).natAbs = kd := ⟨_, rfl⟩
            rw [hkd] at HSZ HOKS HOKN HQP HQ1
            have HCW : Hid (∀ W, Below (g + 1) w1 W → W.cell? ⟨pb, po + i, none⟩ = some (.int .i64 (zg Z i))) := hide (fun W hb => HC.out W hb i hlt)
            obtain ⟨zv, hzv⟩ : ∃ zv, zg Z i = zv := ⟨_, rfl⟩
            rw [hzv] at HSZ HCW
            clear hkd hzv hpz
            have HNX : Hid (lgR Z t k e K i j = false → Hid (rowF Z t k e K i (j + 1) = M ∧ (L ++ M).length = n)) := hide (fun hh => hide ⟨by rw [HQ.out, HQN.out hh, List.append_nil]; exact hM.out.1, hM.out.2⟩)
            obtain ⟨oR, hoR⟩ : ∃ oR, okR Z t k e i j = oR := ⟨_, rfl⟩
            obtain ⟨lR, hlR⟩ : ∃ lR, lgR Z t k e K i j = lR := ⟨_, rfl⟩
            have HLO : Hid (oR = false → lR = false) := hide (fun hh => by rw [← hlR, lgR_of (by rw [hoR, hh])])
            rw [hoR] at HMDj HSFj HOKN HOKF
            rw [hlR] at HSFj HQN HQP HQ1 HNX
            clear hoR hlR
            go_upto_region 9 with fail
            go_cut [6] from 22 to 95 (fun v wc => v = .bool (goR Z t e i j) ∧ Hid (wc.ownsRow (g + 1) 42 3 (.slice ad' n cp') n (flM (L ++ M))) ∧ Hid (Below (g + 1) w1 wc))
            case first =>
              have C9 := HP.out wr hb.out
              go_wp2_with (refine wpList_load_ch rfl (.tmp 1) rfl g rfl C9 ?_)
              refine (HMGj.out wr (HRW.out wr hb.out)).mono ?_
              rintro r w6 ⟨rfl, hb6⟩
              have HO6 : Hid (w6.ownsRow (g + 1) 42 3 (.slice ad' n cp') n (flM (L ++ M))) := hide (own_mono26 hO.out hb6)
              have HB6 : Hid (Below (g + 1) w1 w6) := hide (hb.out.trans (hb6.mono (by have := hb.out.size; have := HS1.out; omega)))
              clear hb6 hO hb C9 HMGj
              go_wp2_with fail
              go_meet
              case rel => exact ⟨rfl, HO6, HB6⟩
            case rest =>
              obtain ⟨rfl, HO6, HB6⟩ := hcut
              clear hO hb HMGj
              rename World => w6
              refine (by assumption : ∀ (a : Act) (w : World), Code.wp Tryd.prog _ _ a w → _) _ _ ?_
              apply wp_seq_k
              intro _ _
              go_cut [6, 7] from 22 to 95 (fun v _ wc => v = .bool oR ∧ Hid (wc.ownsRow (g + 1) 42 3 (.slice ad' n cp') n (flM (L ++ M))) ∧ Hid (Below (g + 1) w1 wc))
              case first =>
                go_wp2_with fail
                go_loopw [6, 7] (fun o x wr => ∃ (u : Nat) (ob : Bool), x = .int .i64 u ∧ u ≤ 4 ∧ o = .bool ob ∧ Hid (okN Z t k e i j u = ob) ∧ Hid (wr.ownsRow (g + 1) 42 3 (.slice ad' n cp') n (flM (L ++ M))) ∧ Hid (Below (g + 1) w1 wr) ∧ Hid (0 < u → kd = 6)) (fun _ x _ => 4 - (intOf x).toNat)
                case atStart => exact ⟨0, _, rfl, by omega, rfl, HOK0, HO6, HB6, hide (fun h => absurd h (by omega))⟩
                case round =>
                  clear HO6 HB6
                  obtain ⟨u, ob, rfl, hu, rfl, hok, hO, hb, hu6⟩ := hrel
                  obtain ⟨x0, x1, -, -, -, -⟩ := (HP.out wr hb.out).cells
                  have zi := HCW.out wr hb.out
                  by_cases hgo : u < 4 ∧ kd = 6
                  · have hu4 : (u : Int) < 4 := by omega
                    have h6b : ((kd : Int) == 6) = true := by simp [hgo.2]
                    have HS := hide (HOKS.out u hgo.2)
                    rw [hok.out] at HS
                    have HK6 := hide hgo.2
                    have HCTu := hide (HCT.out u hgo.1)
                    have hu4n := hgo.1
                    clear hgo
                    cases ob with
                    | true =>
                      go_wp2_with (go_at_call 25; refine (HSZ.out _).mono ?_; rintro r w9 ⟨rfl, hw⟩; subst w9)
                      exact ⟨⟨u + 1, true, by go_num, by omega, rfl, hide (by rw [HS.out]; rfl), hO, hb, hide (fun _ => HK6.out)⟩, by simp [intOf]; omega⟩
                    | false =>
                      have C9 := HP.out wr hb.out
                      go_wp2_with (first | (go_at_call 25; refine (HSZ.out _).mono ?_; rintro r w9 ⟨rfl, hw⟩; subst w9) | refine wpList_load_ch rfl (.tmp 1) rfl g rfl C9 ?_)
                      refine (HCTu.out wr (HRW.out wr hb.out)).mono ?_
                      rintro r w7 ⟨rfl, hb7⟩
                      have HO7 : Hid (w7.ownsRow (g + 1) 42 3 (.slice ad' n cp') n (flM (L ++ M))) := hide (own_mono26 hO.out hb7)
                      have HB7 : Hid (Below (g + 1) w1 w7) := hide (hb.out.trans (hb7.mono (by have := hb.out.size; have := HS1.out; omega)))
                      obtain ⟨cb, hcb⟩ : ∃ cb, (ctI Z t k u == ((j : Nat) : Int)) = cb := ⟨_, rfl⟩
                      rw [hcb] at HS
                      clear hb7 hO hb C9 x0 x1 zi
                      go_wp2_with fail
                      exact ⟨⟨u + 1, cb, by go_num, by omega, by first | rfl | (rw [← hcb]), hide (by rw [HS.out]; rfl), HO7, HB7, hide (fun _ => HK6.out)⟩, by simp [intOf]; omega⟩
                  · have HOR : Hid (ob = oR) := hide (by
                      by_cases h4 : u = 4
                      · subst h4; rw [← hok.out]; exact HOKF.out
                      · have h6 : kd ≠ 6 := fun e0 => hgo ⟨by omega, e0⟩
                        have h0 : u = 0 := by
                          by_cases h0 : 0 < u
                          · exact absurd (hu6.out h0) h6
                          · omega
                        subst h0
                        rw [← hok.out, HOK0.out, HOKN.out h6])
                    have hc1 : Hid ((u : Int) < 4 → ((kd : Int) == 6) = false) := hide (fun h4 => by rw [beq_eq_false_iff_ne]; intro e0; exact hgo ⟨by omega, by omega⟩)
                    clear hgo hok hu6
                    by_cases hu4 : (u : Int) < 4
                    · have h6b := hc1.out hu4
                      go_wp2_with (go_at_call 25; refine (HSZ.out _).mono ?_; rintro r w9 ⟨rfl, hw⟩; subst w9)
                      go_meet
                      case rel => exact ⟨by rw [HOR.out], hO, hb⟩
                    · go_wp2_with fail
                      go_meet
                      case rel => exact ⟨by rw [HOR.out], hO, hb⟩
              case rest =>
                obtain ⟨rfl, hO, hb⟩ := hcut
                clear HO6 HB6 HCT HOK0 HOKS HOKN HOKF
                rename World => w8
                cases oR with
                | false =>
                  have HNXj := HNX.out (HLO.out rfl)
                  refine (by assumption : ∀ (a : Act) (w : World), Code.wp Tryd.prog _ _ a w → _) _ _ ?_
                  apply wp_seq_k
                  intro _ _
                  go_upto_region 14 with fail
                  go_quiet (fail)
                  have HB5 : Hid (Below (g + 1) w1 (w8.drewN nq)) := hide (hb.out.trans (drewN_below _ _ _))
                  have hO5 : Hid ((w8.drewN nq).ownsRow (g + 1) 42 3 (.slice ad' n cp') n (flM (L ++ M))) := hide (own_mono26 hO.out (drewN_below _ _ _))
                  generalize w8.drewN nq = w5 at *
                  go_wp2_with fail
                  exact ⟨⟨j + 1, n, cp', ad', M, by go_num, by omega, rfl, by omega, HNXj, hO5, HB5⟩, by simp [intOf]; omega⟩
                | true =>
                  refine (by assumption : ∀ (a : Act) (w : World), Code.wp Tryd.prog _ _ a w → _) _ _ ?_
                  apply wp_seq_k
                  intro _ _
                  go_upto_region 14 with fail
                  refine wp_region_held (S := fun W5 => Below w8.heap.size w8 W5) (by kernel_rfl) ?_
                  change wpAnyH _ _ _ _ _ _ _ _ (World.drew _)
                  have SW : (fun W5 => Below w8.heap.size w8 W5) w8.drew := drewN_below _ _ 1
                  have HBS : Hid (∀ W, Below w8.heap.size w8 W → Below (g + 1) w1 W) := hide (fun W hW => hb.out.trans (hW.mono (by have := hb.out.size; have := HS1.out; omega)))
                  generalize w8.drew = wd at *
                  refine wpAnyH_take (i := 0) (v := .bool true) rfl (by kernel_rfl) (by kernel_rfl) (by kernel_rfl) (fun _ _ _ h => h) (Or.inl ⟨by rfl, ?_⟩) SW ?_
                  · intro W5 hW5
                    go_simp <;> first | done | rfl | (rw [IntKind.wrap_i64]; omega) | omega
                  go_simp
                  refine wpAnyH_take (i := 1) (v := .bool false) rfl (by kernel_rfl) (by kernel_rfl) (by kernel_rfl) (fun _ _ _ h => h) (Or.inl ⟨by rfl, ?_⟩) SW ?_
                  · intro W5 hW5
                    go_simp <;> first | done | rfl | (rw [IntKind.wrap_i64]; omega) | omega
                  go_simp
                  refine wpAnyH_take (i := 2) (v := .bool false) rfl (by kernel_rfl) (by kernel_rfl) (by kernel_rfl) (fun _ _ _ h => h) (Or.inl ⟨by rfl, ?_⟩) SW ?_
                  · intro W5 hW5
                    go_simp <;> first | done | rfl | (rw [IntKind.wrap_i64]; omega) | omega
                  go_simp
                  refine wpAnyH_take (i := 3) (v := .agg (chA (some ⟨pb, po, none⟩) 64 c (t : Nat) k e h F)) rfl (by kernel_rfl) (by kernel_rfl) (by kernel_rfl) (fun _ _ _ h => h) (yieldsIf_load_mid (by rfl) 24 _ rfl g 0 (by rfl) [.slice (some ⟨pb, po, none⟩) 64 c, .int .i64 (t : Nat), .int .i64 k, .int .i64 e, .int .i64 h, .int .i64 F] _ (fun W hW => (show Vb W g 24 [.slice (some ⟨pb, po, none⟩) 64 c, .int .i64 (t : Nat), .int .i64 k, .int .i64 e, .int .i64 h, .int .i64 F] from HP.out W (HBS.out W hW)).range) Tryd.underlying24 rfl size24) SW ?_
                  go_simp
                  refine wpAnyH_take (i := 4) (v := .int .i64 (i : Nat)) rfl (by kernel_rfl) (by kernel_rfl) (by kernel_rfl) (fun _ _ _ h => h) (Or.inl ⟨by rfl, ?_⟩) SW ?_
                  · intro W5 hW5
                    go_simp <;> first | done | rfl | (rw [IntKind.wrap_i64]; omega) | omega
                  go_simp
                  refine wpAnyH_take (i := 5) (v := .int .i64 (j : Nat)) rfl (by kernel_rfl) (by kernel_rfl) (by kernel_rfl) (fun _ _ _ h => h) (Or.inl ⟨by rfl, ?_⟩) SW ?_
                  · intro W5 hW5
                    go_simp <;> first | done | rfl | (rw [IntKind.wrap_i64]; omega) | omega
                  go_simp
                  refine wpAnyH_take (i := 6) (v := .agg #[.int .i64 (i : Nat), .int .i64 (j : Nat), .int .i64 0]) rfl (by kernel_rfl) (by kernel_rfl) (by kernel_rfl) (fun _ _ _ h => h) (Or.inl ⟨by rfl, ?_⟩) SW ?_
                  · intro W5 hW5
                    go_simp <;> first | done | rfl | (rw [IntKind.wrap_i64]; omega) | omega
                  go_simp
                  refine wpAnyH_take (i := 9) (v := .pointer (some ⟨g, 1, none⟩)) rfl (by kernel_rfl) (by kernel_rfl) (by kernel_rfl) (fun _ _ _ h => h) (Or.inl ⟨by rfl, ?_⟩) SW ?_
                  · intro W5 hW5
                    go_simp <;> first | done | rfl | (rw [IntKind.wrap_i64]; omega) | omega
                  go_simp
                  refine wpAnyH_take (i := 10) (v := .int .i64 (t : Nat)) rfl (by kernel_rfl) (by kernel_rfl) (by kernel_rfl) (fun _ _ _ h => h) (Or.inl ⟨by rfl, ?_⟩) SW ?_
                  · intro W5 hW5
                    have y0 := (HP.out W5 (HBS.out W5 hW5)).cells.2.1
                    go_simp <;> first | done | rfl | (rw [IntKind.wrap_i64]; omega) | omega
                  go_simp
                  refine wpAnyH_ready (rs := [7]) (by kernel_rfl) (by simp) ?_
                  refine AllReadyH.cons rfl (fun K1 hK1 => ?_) AllReadyH.nil
                  go_simp
                  refine (HMDj.out rfl _ (HRW.out _ (HBS.out _ SW))).mono ?_
                  rintro r w9 ⟨rb, c', T', K', E', H', F', rfl, hrd, hb9⟩
                  have SWb := SW.trans (hb9.mono SW.size)
                  refine hK1.out _ _ SWb (fun SW => ?_)
                  clear hK1 K1 SWb
                  have HRD := hide hrd
                  clear hrd hb9
                  go_simp
                  refine wpAnyH_take (i := 8) (v := .slice (some ⟨rb, 0, none⟩) 64 c') rfl (by kernel_rfl) (by kernel_rfl) (by kernel_rfl) (fun _ _ _ h => h) (Or.inl ⟨by rfl, ?_⟩) SW ?_
                  · intro W5 hW5
                    go_simp <;> first | done | rfl | (rw [IntKind.wrap_i64]; omega) | omega
                  go_simp
                  refine wpAnyH_ready (rs := [11]) (by kernel_rfl) (by simp) ?_
                  refine AllReadyH.cons rfl (fun K1 hK1 => ?_) AllReadyH.nil
                  go_simp
                  refine (HSFj.out rfl _ _ _ HRD.out).mono ?_
                  rintro r w9 ⟨rfl, hb9⟩
                  have SWb := SW.trans (hb9.mono SW.size)
                  refine hK1.out _ _ SWb (fun SW => ?_)
                  clear hK1 K1 SWb
                  clear hb9
                  go_simp
                  refine wpAnyH_take (i := 12) (v := .bool (!lR)) rfl (by kernel_rfl) (by kernel_rfl) (by kernel_rfl) (fun _ _ _ h => h) (Or.inl ⟨by rfl, ?_⟩) SW ?_
                  · intro W5 hW5
                    go_simp <;> first | done | rfl | (rw [IntKind.wrap_i64]; omega) | omega
                  go_simp
                  refine wpAnyH_done (by kernel_rfl) ?_ _
                  have HB5 : Hid (Below (g + 1) w1 w9) := hide (HBS.out _ SW)
                  have hO5 : Hid (w9.ownsRow (g + 1) 42 3 (.slice ad' n cp') n (flM (L ++ M))) := hide (own_mono26 hO.out SW)
                  clear SW hO hb HRD
                  cases lR with
                  | false =>
                    have HNXj := HNX.out (by first | rfl | trivial)
                    go_wp2_with fail
                    exact ⟨⟨j + 1, n, cp', ad', M, by go_num, by omega, rfl, by omega, HNXj, hO5, HB5⟩, by simp [intOf]; omega⟩
                  | true =>
                    obtain ⟨x0, -, -, -, -, -⟩ := (HP.out w9 HB5.out).cells
                    have zi := HCW.out w9 HB5.out
                    by_cases h1 : kd = 1
                    · have h1b : ((kd : Int) == 1) = true := by simp [h1]
                      have HP1 := hide h1
                      by_cases hj8 : (j : Int) < 8
                      · have hed : j < 8 ∨ 55 < j := Or.inl (by omega)
                        clear h1
                        have HED : Hid (edge ((j : Nat) : Int) = true) := hide (by unfold edge; simp; omega)
                        clear hed
                        go_upto_region 17 with (go_at_call 25; refine (HSZ.out _).mono ?_; rintro r w10 ⟨rfl, hw⟩; subst w10)
                        go_wp2_with fail
                        go_loopw [3, 8] (fun l x wr => ∃ (s xx cp4 : Nat) (ad4 : Option Addr), x = .int .i64 (xx : Nat) ∧ xx = 2 + s ∧ s ≤ 4 ∧ l = .slice ad4 (n + s) cp4 ∧ Hid (wr.ownsRow (g + 1) 42 3 (.slice ad4 (n + s) cp4) (n + s) (flM (L ++ M ++ pmL i j s))) ∧ Hid (Below (g + 1) w1 wr)) (fun _ x _ => 6 - (intOf x).toNat)
                        case atStart => exact ⟨0, 2, cp', ad', rfl, rfl, by omega, rfl, by rw [show pmL i j 0 = [] from rfl, List.append_nil]; exact hO5, HB5⟩
                        case round =>
                          clear hO5 HB5
                          obtain ⟨s, xx, cp4, ad4, rfl, hxx, hs, rfl, hO, hb⟩ := hrel
                          by_cases hs4 : s < 4
                          · have hx5 : (xx : Int) ≤ 5 := by omega
                            have HE : Hid (pmL i j (s + 1) = pmL i j s ++ [(i, j, xx)]) := hide (by rw [hxx]; rfl)
                            have HXX := hide hxx
                            have HSB : Hid (n + s + 1 ≤ 1000000000) := hide (by omega)
                            clear hxx
                            have hOa := hO.out.alloc (.cells #[.int .i64 (i : Nat), .int .i64 (j : Nat), .int .i64 (xx : Nat)] 42)
                            have VB : Vb (World.alloc wr (.cells #[.int .i64 (i : Nat), .int .i64 (j : Nat), .int .i64 (xx : Nat)] 42)) wr.heap.size 42 (mvC (i, j, xx)) := Vb.new wr 42 _
                            have hBa := hb.out.alloc (by have := hb.out.size; have := HS1.out; omega) (.cells #[.int .i64 (i : Nat), .int .i64 (j : Nat), .int .i64 (xx : Nat)] 42)
                            have hsz := hBa.size
                            have HSZa : Hid (g + 1 ≤ (World.alloc wr (.cells #[.int .i64 (i : Nat), .int .i64 (j : Nat), .int .i64 (xx : Nat)] 42)).heap.size) := hide (by have := HS1.out; omega)
                            clear hsz
                            go_wp2_with (at_builtin; refine wpList_append_m _ rfl _ _ rfl (g + 1) _ (n + s) (L ++ M ++ pmL i j s) rfl hOa wr.heap.size (i, j, xx) rfl VB HSB.out HSZa.out ?_)
                            intro v' w6 hO6 hg6 hst
                            obtain ⟨ad6, cp6, rfl⟩ := own_form26 hO6
                            have HB6 : Hid (Below (g + 1) w1 w6) := hide (grown_below hBa hOa hg6 HSZa.out)
                            have HO6 := hide hO6
                            clear hO6 hg6 hst hBa VB hOa hO hb HSZa
                            go_wp2_with fail
                            have hxx := HXX.out
                            exact ⟨⟨s + 1, xx + 1, cp6, ad6, by go_num, by omega, by omega, rfl, by
                              have h6 := HO6
                              rw [HE.out]
                              simp only [← List.append_assoc] at h6 ⊢
                              exact h6, HB6⟩, by simp [intOf]; omega⟩
                          · obtain rfl : s = 4 := by omega
                            have hx5 : ¬ (xx : Int) ≤ 5 := by omega
                            go_wp2_with fail
                            exact ⟨⟨j + 1, n + 4, cp4, ad4, M ++ pmL i j 4, by go_num, by omega, rfl, by omega, hide ⟨by rw [HQ.out, HQP.out (by first | rfl | trivial) HP1.out HED.out, hM.out.1], by rw [← List.append_assoc, List.length_append, hM.out.2, pmL_len]⟩, by simpa only [List.append_assoc] using hO, hb⟩, by simp [intOf]; omega⟩
                      · by_cases hj55 : (55 : Int) < (j : Int)
                        · have hed : j < 8 ∨ 55 < j := Or.inr (by omega)
                          have hj8' : ¬ (j : Int) < 8 := hj8
                          clear h1 hj8
                          have HED : Hid (edge ((j : Nat) : Int) = true) := hide (by unfold edge; simp; omega)
                          clear hed
                          go_upto_region 17 with (go_at_call 25; refine (HSZ.out _).mono ?_; rintro r w10 ⟨rfl, hw⟩; subst w10)
                          go_wp2_with fail
                          go_loopw [3, 8] (fun l x wr => ∃ (s xx cp4 : Nat) (ad4 : Option Addr), x = .int .i64 (xx : Nat) ∧ xx = 2 + s ∧ s ≤ 4 ∧ l = .slice ad4 (n + s) cp4 ∧ Hid (wr.ownsRow (g + 1) 42 3 (.slice ad4 (n + s) cp4) (n + s) (flM (L ++ M ++ pmL i j s))) ∧ Hid (Below (g + 1) w1 wr)) (fun _ x _ => 6 - (intOf x).toNat)
                          case atStart => exact ⟨0, 2, cp', ad', rfl, rfl, by omega, rfl, by rw [show pmL i j 0 = [] from rfl, List.append_nil]; exact hO5, HB5⟩
                          case round =>
                            clear hO5 HB5
                            obtain ⟨s, xx, cp4, ad4, rfl, hxx, hs, rfl, hO, hb⟩ := hrel
                            by_cases hs4 : s < 4
                            · have hx5 : (xx : Int) ≤ 5 := by omega
                              have HE : Hid (pmL i j (s + 1) = pmL i j s ++ [(i, j, xx)]) := hide (by rw [hxx]; rfl)
                              have HXX := hide hxx
                              have HSB : Hid (n + s + 1 ≤ 1000000000) := hide (by omega)
                              clear hxx
                              have hOa := hO.out.alloc (.cells #[.int .i64 (i : Nat), .int .i64 (j : Nat), .int .i64 (xx : Nat)] 42)
                              have VB : Vb (World.alloc wr (.cells #[.int .i64 (i : Nat), .int .i64 (j : Nat), .int .i64 (xx : Nat)] 42)) wr.heap.size 42 (mvC (i, j, xx)) := Vb.new wr 42 _
                              have hBa := hb.out.alloc (by have := hb.out.size; have := HS1.out; omega) (.cells #[.int .i64 (i : Nat), .int .i64 (j : Nat), .int .i64 (xx : Nat)] 42)
                              have hsz := hBa.size
                              have HSZa : Hid (g + 1 ≤ (World.alloc wr (.cells #[.int .i64 (i : Nat), .int .i64 (j : Nat), .int .i64 (xx : Nat)] 42)).heap.size) := hide (by have := HS1.out; omega)
                              clear hsz
                              go_wp2_with (at_builtin; refine wpList_append_m _ rfl _ _ rfl (g + 1) _ (n + s) (L ++ M ++ pmL i j s) rfl hOa wr.heap.size (i, j, xx) rfl VB HSB.out HSZa.out ?_)
                              intro v' w6 hO6 hg6 hst
                              obtain ⟨ad6, cp6, rfl⟩ := own_form26 hO6
                              have HB6 : Hid (Below (g + 1) w1 w6) := hide (grown_below hBa hOa hg6 HSZa.out)
                              have HO6 := hide hO6
                              clear hO6 hg6 hst hBa VB hOa hO hb HSZa
                              go_wp2_with fail
                              have hxx := HXX.out
                              exact ⟨⟨s + 1, xx + 1, cp6, ad6, by go_num, by omega, by omega, rfl, by
                                have h6 := HO6
                                rw [HE.out]
                                simp only [← List.append_assoc] at h6 ⊢
                                exact h6, HB6⟩, by simp [intOf]; omega⟩
                            · obtain rfl : s = 4 := by omega
                              have hx5 : ¬ (xx : Int) ≤ 5 := by omega
                              go_wp2_with fail
                              exact ⟨⟨j + 1, n + 4, cp4, ad4, M ++ pmL i j 4, by go_num, by omega, rfl, by omega, hide ⟨by rw [HQ.out, HQP.out (by first | rfl | trivial) HP1.out HED.out, hM.out.1], by rw [← List.append_assoc, List.length_append, hM.out.2, pmL_len]⟩, by simpa only [List.append_assoc] using hO, hb⟩, by simp [intOf]; omega⟩
                        · have HN1 : Hid (¬ (kd = 1 ∧ edge ((j : Nat) : Int) = true)) := hide (fun hh => by have := hh.2; unfold edge at this; simp at this; omega)
                          clear h1
                          have hOa := hO5.out.alloc (.cells #[.int .i64 (i : Nat), .int .i64 (j : Nat), .int .i64 0] 42)
                          have VB : Vb (World.alloc w9 (.cells #[.int .i64 (i : Nat), .int .i64 (j : Nat), .int .i64 0] 42)) w9.heap.size 42 (mvC (i, j, 0)) := Vb.new w9 42 _
                          have hBa := HB5.out.alloc (by have := HB5.out.size; have := HS1.out; omega) (.cells #[.int .i64 (i : Nat), .int .i64 (j : Nat), .int .i64 0] 42)
                          have hsz := hBa.size
                          have HSZa : Hid (g + 1 ≤ (World.alloc w9 (.cells #[.int .i64 (i : Nat), .int .i64 (j : Nat), .int .i64 0] 42)).heap.size) := hide (by have := HS1.out; omega)
                          clear hsz
                          go_wp2_with (first | (go_at_call 25; refine (HSZ.out _).mono ?_; rintro r w10 ⟨rfl, hw⟩; subst w10) | (at_builtin; refine wpList_append_m _ rfl _ _ rfl (g + 1) _ n (L ++ M) rfl hOa w9.heap.size (i, j, 0) rfl VB (by omega) HSZa.out ?_))
                          intro v' w6 hO6 hg6 hst
                          obtain ⟨ad6, cp6, rfl⟩ := own_form26 hO6
                          have HB6 : Hid (Below (g + 1) w1 w6) := hide (grown_below hBa hOa hg6 HSZa.out)
                          have HO6 := hide hO6
                          clear hO6 hg6 hst hBa VB hOa HSZa
                          go_wp2_with fail
                          exact ⟨⟨j + 1, n + 1, cp6, ad6, M ++ [(i, j, 0)], by go_num, by omega, rfl, by omega, hide ⟨by rw [HQ.out, HQ1.out (by first | rfl | trivial) HN1.out, hM.out.1], by rw [← List.append_assoc, List.length_append, hM.out.2]; rfl⟩, HO6, HB6⟩, by simp [intOf]; omega⟩
                    · have h1b : ((kd : Int) == 1) = false := by rw [beq_eq_false_iff_ne]; omega
                      have HN1 : Hid (¬ (kd = 1 ∧ edge ((j : Nat) : Int) = true)) := hide (fun hh => h1 hh.1)
                      clear h1
                      have hOa := hO5.out.alloc (.cells #[.int .i64 (i : Nat), .int .i64 (j : Nat), .int .i64 0] 42)
                      have VB : Vb (World.alloc w9 (.cells #[.int .i64 (i : Nat), .int .i64 (j : Nat), .int .i64 0] 42)) w9.heap.size 42 (mvC (i, j, 0)) := Vb.new w9 42 _
                      have hBa := HB5.out.alloc (by have := HB5.out.size; have := HS1.out; omega) (.cells #[.int .i64 (i : Nat), .int .i64 (j : Nat), .int .i64 0] 42)
                      have hsz := hBa.size
                      have HSZa : Hid (g + 1 ≤ (World.alloc w9 (.cells #[.int .i64 (i : Nat), .int .i64 (j : Nat), .int .i64 0] 42)).heap.size) := hide (by have := HS1.out; omega)
                      clear hsz
                      go_wp2_with (first | (go_at_call 25; refine (HSZ.out _).mono ?_; rintro r w10 ⟨rfl, hw⟩; subst w10) | (at_builtin; refine wpList_append_m _ rfl _ _ rfl (g + 1) _ n (L ++ M) rfl hOa w9.heap.size (i, j, 0) rfl VB (by omega) HSZa.out ?_))
                      intro v' w6 hO6 hg6 hst
                      obtain ⟨ad6, cp6, rfl⟩ := own_form26 hO6
                      have HB6 : Hid (Below (g + 1) w1 w6) := hide (grown_below hBa hOa hg6 HSZa.out)
                      have HO6 := hide hO6
                      clear hO6 hg6 hst hBa VB hOa HSZa
                      go_wp2_with fail
                      exact ⟨⟨j + 1, n + 1, cp6, ad6, M ++ [(i, j, 0)], by go_num, by omega, rfl, by omega, hide ⟨by rw [HQ.out, HQ1.out (by first | rfl | trivial) HN1.out, hM.out.1], by rw [← List.append_assoc, List.length_append, hM.out.2]; rfl⟩, HO6, HB6⟩, by simp [intOf]; omega⟩
          · obtain rfl : j = 64 := by omega
            go_wp2_with fail
            exact ⟨⟨i + 1, n, cp', ad', L ++ M, by go_num, by omega, rfl, by omega, hide ⟨by rw [rowA_succ, HO.out, if_pos rfl, hL.out.1, hM.out.1], hM.out.2⟩, hO, hb⟩, by simp [intOf]; omega⟩
    · obtain rfl : i = 64 := by omega
      go_wp2_with fail
      go_ret
      have h1 := HRA.out.trans hL.out.1
      have h2 : XS.length = m := by rw [h1]; exact hL.out.2
      rw [h2, h1]
      exact ⟨ad, cp, rfl, own_base hO.out (by omega), HB1.out.trans (hb.out.mono (by omega))⟩

end Go.Proofs.YtdmlamnonbmboaaDoor
