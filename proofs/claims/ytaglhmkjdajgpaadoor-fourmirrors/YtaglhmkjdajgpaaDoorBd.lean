/-
  The document's own search for the best drop. No conditions beyond those that each theorem bears.
-/
import Derived.Test.YtaglhmkjdajgpaaDoorCd
import Derived.Test.YtaglhmkjdajgpaaDoorBs
namespace Go.Proofs.YtaglhmkjdajgpaaDoor
open Go.RowKit

/-- One column more, as the document looks. -/
def rst1 (V : Nat × Nat → Int) (r : Int × Int) (x : Nat × Nat) : Int × Int := if r.1 < V x then (V x, (x.1 : Int)) else r

/-- Where nobody has a row. -/
def rfin (r : Int × Int) : Int × Int := if r.2 < 0 then (0, -1) else r

/-- The document's best, d plies deep from here, s plies being played. -/
def rbd (W H k : Nat) : Nat → Nat → List Int → Nat → Int × Int
  | 0, s, Z, m => if wnZ W H k Z = m then (100 - (s : Int), -1) else if 0 < wnZ W H k Z then ((s : Int) - 100, -1) else (0, -1)
  | d + 1, s, Z, m => if wnZ W H k Z = m then (100 - (s : Int), -1) else if 0 < wnZ W H k Z then ((s : Int) - 100, -1) else
      rfin ((drK W H Z W).foldl (rst1 fun x => -(rbd W H k d (s + 1) (Z.set x.2 (m : Int)) (3 - m)).1) (-1000, -1))

theorem rbd_who {W H k d s m : Nat} {Z : List Int} (h : wnZ W H k Z = m) : rbd W H k d s Z m = (100 - (s : Int), -1) := by
  cases d <;> (unfold rbd; rw [if_pos h])
theorem rbd_won {W H k d s m : Nat} {Z : List Int} (h : ¬ wnZ W H k Z = m) (h0 : 0 < wnZ W H k Z) : rbd W H k d s Z m = ((s : Int) - 100, -1) := by
  cases d <;> (unfold rbd; rw [if_neg h, if_pos h0])
theorem rbd_zero {W H k s m : Nat} {Z : List Int} (h : ¬ wnZ W H k Z = m) (h0 : ¬ 0 < wnZ W H k Z) : rbd W H k 0 s Z m = (0, -1) := by
  unfold rbd; rw [if_neg h, if_neg h0]
theorem rbd_succ {W H k d s m : Nat} {Z : List Int} (h : ¬ wnZ W H k Z = m) (h0 : ¬ 0 < wnZ W H k Z) : rbd W H k (d + 1) s Z m = rfin ((drK W H Z W).foldl (rst1 fun x => -(rbd W H k d (s + 1) (Z.set x.2 (m : Int)) (3 - m)).1) (-1000, -1)) := by
  conv => lhs; unfold rbd
  rw [if_neg h, if_neg h0]

theorem rst1_bd {V : Nat × Nat → Int} (hV : ∀ x, -100 ≤ V x ∧ V x ≤ 100) : ∀ (xs : List (Nat × Nat)) (r : Int × Int), (r.2 = -1 ∧ r.1 = -1000 ∨ (0 ≤ r.2 ∧ r.2 ≤ 1000) ∧ -100 ≤ r.1 ∧ r.1 ≤ 100) → (∀ x, x ∈ xs → x.1 ≤ 1000) → ((xs.foldl (rst1 V) r).2 = -1 ∧ (xs.foldl (rst1 V) r).1 = -1000 ∨ (0 ≤ (xs.foldl (rst1 V) r).2 ∧ (xs.foldl (rst1 V) r).2 ≤ 1000) ∧ -100 ≤ (xs.foldl (rst1 V) r).1 ∧ (xs.foldl (rst1 V) r).1 ≤ 100)
  | [], _, h1, _ => h1
  | x :: xs, r, h1, h3 => by
    rw [List.foldl_cons]
    have hx := h3 x (by simp)
    have := hV x
    apply rst1_bd hV xs
    · unfold rst1; split
      · right; dsimp only; omega
      · exact h1
    · intro y hy; exact h3 y (by simp [hy])

theorem rbd_bd (W H k : Nat) (hW : W ≤ 10) : ∀ (d s : Nat) (Z : List Int) (m : Nat), s + d ≤ 6 → -100 ≤ (rbd W H k d s Z m).1 ∧ (rbd W H k d s Z m).1 ≤ 100
  | d, s, Z, m, h => by
    by_cases h1 : wnZ W H k Z = m
    · rw [rbd_who h1]; dsimp only; omega
    · by_cases h2 : 0 < wnZ W H k Z
      · rw [rbd_won h1 h2]; dsimp only; omega
      · cases d with
        | zero => rw [rbd_zero h1 h2]; simp
        | succ d =>
          rw [rbd_succ h1 h2]
          have := rst1_bd (V := fun x => -(rbd W H k d (s + 1) (Z.set x.2 (m : Int)) (3 - m)).1) (fun x => by
            have := rbd_bd W H k hW d (s + 1) (Z.set x.2 (m : Int)) (3 - m) (by omega)
            omega) (drK W H Z W) (-1000, -1) (Or.inl ⟨rfl, rfl⟩) (fun x hx => by have := drK_fst hx; omega)
          unfold rfin
          split <;> omega

def BdOk (gW gH k n d : Nat) : Prop := ∀ (a : Option Addr) (c : Nat) (zs : List Int) (m s : Nat) (w : World), (m = 1 ∨ m = 2) → s + d ≤ 6 → Zok n zs → Rd w a n c zs →
  Calls Tryd.prog 19 #[.agg (gdA gW gH a n c), .int .i64 (k : Nat), .int .i64 ((s + d : Nat) : Int), .int .i64 (m : Nat), .int .i64 (s : Nat)] w fun e w' => e = .returned (.tuple #[.int .i64 (rbd gW gH k d s zs m).1, .int .i64 (rbd gW gH k d s zs m).2]) ∧ Below w.heap.size w w'

attribute [local irreducible] drK inR fallN rbd wnZ wn wY mY mkL rst1 rfin

set_option maxRecDepth 100000 in
set_option maxHeartbeats 4000000 in
theorem bd_step (gW gH k n d : Nat) (hgW : 1 ≤ gW ∧ gW ≤ 10) (hgH : 1 ≤ gH ∧ gH ≤ 10) (hm : gW * gH = n) (hk : 1 ≤ k ∧ k ≤ 10) (ih : ∀ e, d = e + 1 → BdOk gW gH k n e) : BdOk gW gH k n d := by
  intro a c zs m s w hmm hsd hz h
  have hn1 : 0 < n := by
    have : 1 * 1 ≤ gW * gH := Nat.mul_le_mul hgW.1 hgH.1
    omega
  have hnq : n ≤ 100 := by
    have : gW * gH ≤ 10 * 10 := Nat.mul_le_mul hgW.2 hgH.2
    omega
  have hcm := h.max
  unfold maxLen at hcm
  have hcc := h.cap
  have HWO := hide (fun W1 (hR : Rd W1 a n c zs) => WonOf_any gW gH a n c k zs hgW hgH hm hk hz.2 W1 hR)
  have HWN := hide (won_wnZ (k := k) (show 0 < gW by omega) hk.1 hm hz.2)
  have HFA := hide (fun col (hc : col < gW) W1 (hR : Rd W1 a n c zs) => fallTo_any gW gH a n c col zs hgW hgH hm hc W1 hR)
  have HGO := hide (fun W1 (hR : Rd W1 a n c zs) => GridOf_own gW gH a n c zs W1 hR (by omega))
  have HPN : Hid (∀ {j p : Nat}, j < gW → fallN gW zs j gH = some p → p < n) := hide (fun hj hf => by have := fallN_lt hj _ _ hf; rw [hm] at this; exact this.1)
  obtain ⟨w1, hw1⟩ : ∃ w1, w.alloc (.cells (gdA gW gH a n c) 24) = w1 := ⟨_, rfl⟩
  have HB1 : Hid (Below w.heap.size w w1) := hide (by rw [← hw1]; exact (Below.refl _ _).alloc (Nat.le_refl _) _)
  have HG1 : Hid (Gd w1 w.heap.size gW gH a n c) := hide (by rw [← hw1]; exact Gd.new _ _ _ _ _ _)
  have hs1 : w1.heap.size = w.heap.size + 1 := by rw [← hw1]; simp
  have HR1 := hide (h.mono HB1.out)
  have HZ := hide hz
  obtain ⟨D, hD⟩ : ∃ D, s + d = D := ⟨_, rfl⟩
  have HD := hide hD
  have hDb : D ≤ 6 := by omega
  have hsb : s ≤ 6 := by omega
  obtain ⟨WN, hWN⟩ : ∃ WN, wnZ gW gH k zs = WN := ⟨_, rfl⟩
  rw [hWN] at HWN
  have HWNE := hide hWN
  rw [hD]
  clear h hz hm hD hWN hsd
  have G1 := HG1.out
  by_cases e1 : WN = m
  · have HRV := hide (rbd_who (W := gW) (H := gH) (k := k) (d := d) (s := s) (m := m) (Z := zs) (HWNE.out.trans e1))
    rw [HRV.out]
    have hb1 : ((WN : Int) == (m : Int)) = true := by simp; omega
    clear e1
    go_enter Tryd.func19, Tryd.ntmps19
    go_wp2_with (refine wpList_load_gd rfl (.tmp 5) rfl w.heap.size rfl G1 ?_)
    clear hw1 G1
    refine (HWO.out w1 HR1.out).mono ?_
    rintro e w2 ⟨a2, c2, rfl, -, hb2⟩
    rw [HWN.out]
    have HB2 := hide (HB1.out.trans (hb2.mono HB1.out.size))
    clear hb2 HWO HWN
    go_wp2_with fail
    go_ret2
    exact ⟨rfl, HB2.out⟩
  have hb1 : ((WN : Int) == (m : Int)) = false := by simp; omega
  by_cases e2 : 0 < WN
  · have HRV := hide (rbd_won (W := gW) (H := gH) (k := k) (d := d) (s := s) (m := m) (Z := zs) (by rw [HWNE.out]; exact e1) (by rw [HWNE.out]; exact e2))
    rw [HRV.out]
    have hb2' : (0 : Int) < (WN : Int) := by omega
    clear e1 e2
    go_enter Tryd.func19, Tryd.ntmps19
    go_wp2_with (refine wpList_load_gd rfl (.tmp 5) rfl w.heap.size rfl G1 ?_)
    clear hw1 G1
    refine (HWO.out w1 HR1.out).mono ?_
    rintro e w2 ⟨a2, c2, rfl, -, hb2⟩
    rw [HWN.out]
    have HB2 := hide (HB1.out.trans (hb2.mono HB1.out.size))
    clear hb2 HWO HWN
    go_wp2_with fail
    go_ret2
    exact ⟨rfl, HB2.out⟩
  obtain rfl : WN = 0 := by omega
  cases d with
  | zero =>
    have HRV := hide (rbd_zero (W := gW) (H := gH) (k := k) (s := s) (m := m) (Z := zs) (by rw [HWNE.out]; exact e1) (by rw [HWNE.out]; exact e2))
    rw [HRV.out]
    have hb3 : ((s : Int) == (D : Int)) = true := by have := HD.out; simp; omega
    clear e1 e2
    go_enter Tryd.func19, Tryd.ntmps19
    go_wp2_with (refine wpList_load_gd rfl (.tmp 5) rfl w.heap.size rfl G1 ?_)
    clear hw1 G1
    refine (HWO.out w1 HR1.out).mono ?_
    rintro e w2 ⟨a2, c2, rfl, -, hb2⟩
    rw [HWN.out]
    have HB2 := hide (HB1.out.trans (hb2.mono HB1.out.size))
    clear hb2 HWO HWN
    go_wp2_with fail
    go_ret2
    exact ⟨rfl, HB2.out⟩
  | succ d =>
    have HRV := hide (rbd_succ (W := gW) (H := gH) (k := k) (d := d) (s := s) (m := m) (Z := zs) (by rw [HWNE.out]; exact e1) (by rw [HWNE.out]; exact e2))
    have hsd : s + 1 + d = D := by have := HD.out; omega
    have HIH := hide (fun p a' c' W1 hR => ih d rfl a' c' (zs.set p (m : Nat)) (3 - m) (s + 1) W1 (by omega) (by omega) (HZ.out.set p (by omega)) hR)
    rw [hsd] at HIH
    have HVB := hide (fun p => rbd_bd gW gH k hgW.2 d (s + 1) (zs.set p (m : Nat)) (3 - m) (by omega))
    obtain ⟨V, hV⟩ : ∃ V : Nat × Nat → Int, (fun x : Nat × Nat => -(rbd gW gH k d (s + 1) (zs.set x.2 (m : Int)) (3 - m)).1) = V := ⟨_, rfl⟩
    have HV : Hid (∀ x, -(rbd gW gH k d (s + 1) (zs.set x.2 (m : Int)) (3 - m)).1 = V x) := hide (fun x => by rw [← hV])
    have HVB2 : Hid (∀ x, -100 ≤ V x ∧ V x ≤ 100) := hide (fun x => by rw [← HV.out]; have := HVB.out x.2; omega)
    rw [hV] at HRV
    rw [HRV.out]
    obtain ⟨⟨Rv, Rc⟩, hRR⟩ : ∃ P, rfin ((drK gW gH zs gW).foldl (rst1 V) (-1000, -1)) = P := ⟨_, rfl⟩
    have HRR := hide hRR
    rw [hRR]
    clear hRR
    have HFB : Hid (∀ j, j ≤ gW → _) := hide (fun j (hj : j ≤ gW) => rst1_bd HVB2.out (drK gW gH zs j) (-1000, -1) (Or.inl ⟨rfl, rfl⟩) (fun x hx => by have := drK_fst hx; omega))
    have hb3 : ((s : Int) == (D : Int)) = false := by simp; omega
    have hm0 : ((0 : Int) == (m : Int)) = false := by simp; omega
    obtain ⟨S1, hS1⟩ : ∃ S1, s + 1 = S1 := ⟨_, rfl⟩
    have hsS : (s : Int) + 1 = (S1 : Int) := by omega
    have hm3 : (3 : Int) - (m : Int) = ((3 - m : Nat) : Int) := by omega
    obtain ⟨m2, hm2⟩ : ∃ m2, 3 - m = m2 := ⟨_, rfl⟩
    rw [hm2] at hm3 HIH HV
    rw [hS1] at HIH HV
    clear hV e1 e2 HRV HVB ih hS1 hm2 hsd
    go_enter Tryd.func19, Tryd.ntmps19
    go_wp2_with (refine wpList_load_gd rfl (.tmp 5) rfl w.heap.size rfl G1 ?_)
    clear hw1 G1
    refine (HWO.out w1 HR1.out).mono ?_
    rintro e w2 ⟨a2, c2, rfl, -, hb2⟩
    rw [HWN.out]
    have HB2 := hide hb2
    clear hb2 HWO HWN
    go_wp2_with fail
    clear hb3 hm0 hb1
    go_loopw [14, 15, 16] (fun bv bw v wr => ∃ j : Nat, v = .int .i64 j ∧ j ≤ gW ∧ bv = .int .i64 ((drK gW gH zs j).foldl (rst1 V) (-1000, -1)).1 ∧ bw = .int .i64 ((drK gW gH zs j).foldl (rst1 V) (-1000, -1)).2 ∧ Hid (Below w1.heap.size w1 wr)) (fun _ _ v _ => gW - (intOf v).toNat)
    case atStart => exact ⟨0, rfl, by omega, by rw [drK_zero]; rfl, by rw [drK_zero]; rfl, HB2⟩
    case round =>
      obtain ⟨j, rfl, hj, rfl, rfl, hB⟩ := hrel
      have hFb := HFB.out j hj
      have HSM : Hid (∀ p, drK gW gH zs (j + 1) = drK gW gH zs j ++ [(j, p)] → (drK gW gH zs (j + 1)).foldl (rst1 V) (-1000, -1) = rst1 V ((drK gW gH zs j).foldl (rst1 V) (-1000, -1)) (j, p)) := hide (fun p h => by rw [h, List.foldl_append]; rfl)
      have HFE : Hid (j = gW → (drK gW gH zs gW).foldl (rst1 V) (-1000, -1) = (drK gW gH zs j).foldl (rst1 V) (-1000, -1)) := hide (fun h => by rw [h])
      obtain ⟨⟨Fv, Fc⟩, hF⟩ : ∃ F, (drK gW gH zs j).foldl (rst1 V) (-1000, -1) = F := ⟨_, rfl⟩
      have HF := hide hF
      rw [hF] at hFb HSM HFE ⊢
      dsimp only at hFb ⊢
      clear hF
      have Gr := hide (HG1.out.below hB.out (by omega))
      have Rr := hide (HR1.out.mono hB.out)
      have hsr := hB.out.size
      obtain ⟨g0, g1, g2⟩ := Gr.out.cells
      by_cases hlt : j < gW
      · have hlt' : (j : Int) < (gW : Int) := by omega
        have HC := hide (HFA.out j hlt wr Rr.out)
        clear HFE
        cases hf : fallN gW zs j gH with
        | none =>
          rw [hf] at HC
          have HK := hide (drK_none hf)
          clear hf
          have Gr' := Gr.out
          go_wp2_with (refine wpList_load_gd rfl (.tmp 5) rfl w.heap.size rfl Gr' ?_)
          refine HC.out.mono ?_
          rintro e w3 ⟨rfl, hb3⟩
          rw [show fallI none = -1 from rfl]
          have HB3 := hide (hB.out.trans (hb3.mono hsr))
          clear hb3 HC Gr' g0 g1 g2
          go_wp2_with fail
          exact ⟨⟨j + 1, by go_num, by omega, by rw [HK.out, HF.out], by rw [HK.out, HF.out], HB3⟩, by simp [intOf]; omega⟩
        | some p =>
          rw [hf] at HC
          have HK := hide (HSM.out p (drK_some hf))
          have hpn := HPN.out hlt hf
          have hVX := HVB2.out (j, p)
          have HVX := hide (HV.out (j, p))
          clear hf HSM
          have Gr' := Gr.out
          go_wp2_with (refine wpList_load_gd rfl (.tmp 5) rfl w.heap.size rfl Gr' ?_)
          refine HC.out.mono ?_
          rintro e w2 ⟨rfl, hb3⟩
          rw [show fallI (some p) = (p : Int) from rfl]
          have HB3 := hide (hB.out.trans (hb3.mono hsr))
          have G3 := Gr.out.below hb3 Gr.out.lt
          have R3 := Rr.out.mono hb3
          have HG3 := hide G3
          have HR3 := hide R3
          have hp0 : ¬ (p : Int) < 0 := by omega
          clear hb3 HC Gr' g0 g1 g2 Rr Gr hB
          go_wp2_with (refine wpList_load_gd rfl (.tmp 5) rfl w.heap.size rfl G3 ?_)
          refine (HGO.out w2 R3).mono ?_
          rintro e w3 ⟨a', c', rfl, hO, hb4⟩
          clear G3 R3
          have h2s := HB3.out.size
          have HB4 := hide (HB3.out.trans (hb4.mono h2s))
          have h3s := hb4.size
          obtain ⟨ab, rfl, hab, habl⟩ : ∃ ab, a' = some ⟨ab, 0, none⟩ ∧ w2.heap.size ≤ ab ∧ ab < w3.heap.size := by
            rcases hO.2 with ⟨e, e2⟩ | ⟨b, cap, cur, e, hb, h2, _⟩
            · omega
            · simp only [Value.slice.injEq] at e
              exact ⟨b, e.1, hb, (Array.getElem?_eq_some_iff.1 h2).1⟩
          have HO := hide hO
          have hcc' : n ≤ c' ∧ c' ≤ maxLen := by have := Rd.of_own hO; exact ⟨this.cap, this.max⟩
          unfold maxLen at hcc'
          clear hO hb4 HG3 HR3
          have K22 := Gd.new w3 0 0 none 0 0
          go_wp2_with (refine wpList_store_gd rfl (.tmp 18) (.tmp 51) rfl w3.heap.size rfl rfl K22 ?_)
          intro w5 k5 kk5
          have X5 := hide k5
          have KA : Keeps (fun k => k = w3.heap.size) w3 w5 := ((Keeps.refl _ w3).alloc _).trans kk5
          have O5 := hide (own_blk HO.out (w' := w5) (fun b e => by simp only [Value.ownBlock, Option.some.injEq] at e; rw [← e]; exact KA.block _ habl (by omega)))
          have HB5 : Hid (Below w1.heap.size w1 w5) := hide (HB4.out.trans ((KA.mono (Y := fun k => w3.heap.size ≤ k) (fun k _ e => by omega)).below (B := w1.heap.size) (by omega) (fun k hk e => by omega)))
          have h5s := KA.size
          obtain ⟨-, -, x2⟩ := X5.out.cells
          have c6 : w5.cell? ⟨ab, p, none⟩ = some (.int .i64 (zs.getD p 0)) := by have := ((Rd.of_own O5.out).cell hpn).2; rwa [Nat.zero_add] at this
          have f6 := World.ownsRow.frozenAt O5.out p
          have HO7 := hide (World.ownsRow.stored O5.out p (.int .i64 (m : Nat))).1
          have HK7 := hide (Keeps.set1 w5 ab p (.int .i64 (m : Nat)))
          clear k5 kk5 KA K22 HO HB4
          go_upto_region 16 with fail
          have HX7 := X5.out.keeps HK7.out (by omega)
          have HB7 : Hid (Below w1.heap.size w1 (w5.setCell ⟨ab, p, none⟩ (.int .i64 (m : Nat)))) := hide (HB5.out.trans ((HK7.out.mono (Y := fun q => w2.heap.size ≤ q) (fun q _ e => by omega)).below (B := w1.heap.size) (by have := HB5.out.size; omega) (fun q hq e => by omega)))
          have R7 : Rd (w5.setCell ⟨ab, p, none⟩ (.int .i64 (m : Nat))) (some ⟨ab, 0, none⟩) n c' (zs.set p (m : Nat)) := Rd.of_own (by rw [List.map_set]; exact own_base HO7.out (Nat.zero_le _))
          have HC7 := hide (HIH.out p _ _ _ R7)
          obtain ⟨⟨Pv, Pc⟩, hP⟩ : ∃ P, rbd gW gH k d S1 (zs.set p (m : Nat)) m2 = P := ⟨_, rfl⟩
          rw [hP] at HC7 HVX
          dsimp only at HC7 HVX
          obtain ⟨VX, hVXe⟩ : ∃ VX, V (j, p) = VX := ⟨_, rfl⟩
          rw [hVXe] at HVX hVX
          have HVXe := hide hVXe
          have hPv : -Pv = VX := HVX.out
          clear hP hVXe
          obtain ⟨w7, hw7⟩ : ∃ w7, w5.setCell ⟨ab, p, none⟩ (.int .i64 (m : Nat)) = w7 := ⟨_, rfl⟩
          rw [hw7] at HX7 HB7 HC7 ⊢
          clear hw7 HO7 HK7 R7 c6 f6 x2 O5 X5
          go_wp2_with (refine wpList_load_gd rfl (.tmp 18) rfl w3.heap.size rfl HX7 ?_)
          refine HC7.out.mono ?_
          rintro e w8 ⟨rfl, hb8⟩
          have HB8 := hide (HB7.out.trans (hb8.mono HB7.out.size))
          clear hb8 HX7 HC7
          by_cases hup : Fv < VX
          · have HST : Hid (rst1 V (Fv, Fc) (j, p) = (VX, (j : Int))) := hide (by unfold rst1; rw [HVXe.out, if_pos hup])
            go_wp2_with fail
            exact ⟨⟨j + 1, by go_num, by omega, by rw [HK.out, HST.out], by rw [HK.out, HST.out], HB8⟩, by simp [intOf]; omega⟩
          · have HST : Hid (rst1 V (Fv, Fc) (j, p) = (Fv, Fc)) := hide (by unfold rst1; rw [HVXe.out, if_neg hup])
            go_wp2_with fail
            exact ⟨⟨j + 1, by go_num, by omega, by rw [HK.out, HST.out], by rw [HK.out, HST.out], HB8⟩, by simp [intOf]; omega⟩
      · have hlt' : ¬ (j : Int) < (gW : Int) := by omega
        have HRE : Hid ((Rv, Rc) = rfin (Fv, Fc)) := hide (by rw [← HRR.out, HFE.out (by omega)])
        clear HFE HSM
        by_cases hneg : Fc < 0
        · have HRF : Hid (Rv = 0 ∧ Rc = -1) := hide (by have := HRE.out; unfold rfin at this; rw [if_pos hneg] at this; exact ⟨congrArg Prod.fst this, congrArg Prod.snd this⟩)
          go_wp2_with fail
          go_ret2
          exact ⟨by rw [HRF.out.1, HRF.out.2]; rfl, HB1.out.trans (hB.out.mono HB1.out.size)⟩
        · have HRF : Hid (Rv = Fv ∧ Rc = Fc) := hide (by have := HRE.out; unfold rfin at this; rw [if_neg hneg] at this; exact ⟨congrArg Prod.fst this, congrArg Prod.snd this⟩)
          go_wp2_with fail
          go_ret2
          exact ⟨by rw [HRF.out.1, HRF.out.2]; rfl, HB1.out.trans (hB.out.mono HB1.out.size)⟩

theorem bd_all (gW gH k n : Nat) (hgW : 1 ≤ gW ∧ gW ≤ 10) (hgH : 1 ≤ gH ∧ gH ≤ 10) (hm : gW * gH = n) (hk : 1 ≤ k ∧ k ≤ 10) : ∀ d, BdOk gW gH k n d
  | 0 => bd_step gW gH k n 0 hgW hgH hm hk (fun e h => by omega)
  | d + 1 => bd_step gW gH k n (d + 1) hgW hgH hm hk (fun e h => by obtain rfl : d = e := by omega
                                                                    exact bd_all gW gH k n hgW hgH hm hk d)

end Go.Proofs.YtaglhmkjdajgpaaDoor
