/-
  The document's rows, piece by piece, walked. No conditions beyond those that each theorem bears.
-/
import Derived.Test.YtjcglpnpdalcjaaNew
namespace Go.Proofs.Ytjcglpnpdalcjaa
open Go.RowKit
attribute [local go_sem] build35 run_eq35 guard35
attribute [local irreducible] hz hzL rwN

theorem cl2_take (ps : List Pc) (i : Nat) (h : i < ps.length) : cl2 (ps.take (i + 1)) = cl2 (ps.take i) ++ [ps.getD i (0, 0), turn (ps.getD i (0, 0))] := by
  rw [List.take_succ_eq_append_getElem h]
  unfold cl2
  rw [List.flatMap_append]
  simp [List.getD, h]

theorem cl2_len (ps : List Pc) : (cl2 ps).length = 2 * ps.length := by
  induction ps with
  | nil => rfl
  | cons p ps ih =>
    have : cl2 (p :: ps) = p :: turn p :: cl2 ps := rfl
    rw [this, List.length_cons, List.length_cons, ih, List.length_cons]
    omega

theorem rest_perm (ps : List Pc) (i : Nat) (h : i < ps.length) (q : Pc) (hq : lf q = lf (ps.getD i (0, 0))) : ((ps.take i ++ ps.drop (i + 1)).map lf).Perm ((ps.map lf).erase (lf q)) := by
  have e : ps = ps.take i ++ ps.getD i (0, 0) :: ps.drop (i + 1) := by
    have h1 : ps.getD i (0, 0) :: ps.drop (i + 1) = ps.drop i := by rw [List.drop_eq_getElem_cons h]; simp [List.getD, h]
    rw [h1, List.take_append_drop]
  have hp : (ps.map lf).Perm (lf q :: ((ps.take i ++ ps.drop (i + 1)).map lf)) := by
    have h2 := congrArg (List.map lf) e
    rw [h2, List.map_append, List.map_cons, List.map_append, ← hq]
    exact List.perm_middle
  have h3 := hp.erase (lf q)
  rw [List.erase_cons_head] at h3
  exact h3.symm

theorem pcsB_rest (ps : List Pc) (i : Nat) (h : pcsB ps = true) : pcsB (ps.take i ++ ps.drop (i + 1)) = true := by
  unfold pcsB at h ⊢
  rw [List.all_eq_true] at h ⊢
  intro p hp
  rcases List.mem_append.1 hp with hp | hp
  · exact h p (List.mem_of_mem_take hp)
  · exact h p (List.mem_of_mem_drop hp)

theorem lf_turn (p : Pc) : lf (turn p) = lf p := by
  unfold lf turn
  simp only [Prod.mk.injEq]
  omega

theorem ro_rest (ps : List Pc) (k i : Nat) (hk : ps.length = k + 1) (h : i < ps.length) (q : Pc) (hq : lf q = lf (ps.getD i (0, 0))) (y : Nat) (hy : q.2 = (y : Int)) : roV (ps.take i ++ ps.drop (i + 1)) (y : Int) = fv k (ps.map lf) q := by
  have hl : (ps.take i ++ ps.drop (i + 1)).length = k := by rw [List.length_append, List.length_take, List.length_drop]; omega
  unfold fv roV
  rw [hl, hy, Int.toNat_natCast, if_neg (show ¬ (y : Int) < 0 by omega)]
  by_cases h0 : k = 0
  · rw [if_pos h0, h0, rwN]
  · rw [if_neg h0]
    exact rwN_perm k y (rest_perm ps i h q hq)

theorem take_in (T : List Pc) (t : Nat) (h : t < T.length) (q : Pc) : decide (q ∈ T.take (t + 1)) = (decide (q ∈ T.take t) || decide (q = T.getD t (0, 0))) := by
  have e : T.getD t (0, 0) = T[t] := by simp [List.getD, h]
  rw [List.take_succ_eq_append_getElem h, e, Bool.eq_iff_iff]
  simp only [Bool.or_eq_true, decide_eq_true_iff, List.mem_append, List.mem_singleton]

set_option maxRecDepth 100000 in
set_option maxHeartbeats 16000000 in
theorem RowsOf_any : ∀ (k : Nat), k ≤ 7 → ∀ (a : Option Addr) (c : Nat) (ps : List Pc) (e : Int) (w : World), Rp w a k c ps → pcsB ps = true → -1 ≤ e → e < 10 →
    Calls Try.prog 14 #[.slice a k c, .int .i64 e] w fun r w' => r = .returned (.int .i64 (roV ps e : Nat)) ∧ Below w.heap.size w w' := by
  intro k
  induction k with
  | zero =>
    intro _ a c ps e w h _ _ _
    have HV : Hid (roV ps e = 1) := hide (by unfold roV; rw [if_pos h.len])
    clear h
    go_enter Try.func14, Try.ntmps14
    go_wp2_with fail
    go_ret
    exact ⟨ret_intN (by rw [HV.out]; rfl), Below.refl _ _⟩
  | succ k ih0 =>
    intro hk7 a c ps e w h hp he1 he2
    have IH := hide (ih0 (by omega))
    clear ih0
    have hcm := h.max
    have hcn := h.cap
    unfold maxLen at hcm
    have HH := hide h
    have HL := hide h.len
    have HP := hide hp
    obtain ⟨V, hV⟩ : ∃ V, roV ps e = V := ⟨_, rfl⟩
    rw [hV]
    have HV := hide hV
    obtain ⟨f, hf⟩ : ∃ f, fv k (ps.map lf) = f := ⟨_, rfl⟩
    have HFB : Hid (∀ p, f p ≤ 1000000) := hide (fun p => by
      rw [← hf]
      refine Nat.le_trans (rwN_le k _ _) ?_
      have : 10 ^ k ≤ 10 ^ 6 := Nat.pow_le_pow_right (by omega) (by omega)
      simpa using this)
    have HF := hide hf
    obtain ⟨n, hn⟩ : ∃ n, k + 1 = n := ⟨_, rfl⟩
    rw [hn] at HH HL hcn hk7 ⊢
    have HN := hide hn
    have hn1 : 1 ≤ n := by omega
    have hn0 : ((n : Int) == 0) = false := by simp; omega
    obtain ⟨b, off, ha, -⟩ := HH.out.cells (by omega)
    subst ha
    clear h hp hV hf hn
    go_enter Try.func14, Try.ntmps14
    go_wp2_with fail
    go_loopw [5, 6, 7] (fun vn vt vi wr => ∃ (i N : Nat) (T : List Pc), i ≤ n ∧ N ≤ 1000000 * (2 * i) ∧ T.length ≤ 2 * i ∧ vi = .int .i64 i ∧ vn = .int .i64 N ∧ Hid ((cl2 (ps.take i)).foldl (stF f e) ([], 0) = (T, N)) ∧ Hid (wr.ownsRow w.heap.size 35 2 vt T.length (flat T)) ∧ Hid (Below w.heap.size w wr)) (fun _ _ vi _ => n - (intOf vi).toNat)
    case atStart => exact ⟨0, 0, [], by omega, by omega, by simp, rfl, rfl, hide rfl, hide (World.ownsRow_nil _ _ _ _), hide (Below.refl _ _)⟩
    case round =>
      obtain ⟨i, N, T, hin, hNb, hTb, rfl, rfl, HFO, HO, HB⟩ := hrel
      by_cases hlt : i < n
      · have hlt' : (i : Int) < (n : Int) := by omega
        have hzl : i < ps.length := by rw [HL.out]; exact hlt
        obtain ⟨X, Y, hXY, hX, hY⟩ := pcs_nat HP.out hzl
        have HXY := hide hXY
        have hRr := HH.out.mono HB.out
        have cxy := (hRr.cell hlt).2
        have hbl : b < w.heap.size := World.block_lt_of_cell? w _ (HH.out.cell hlt).2.1
        rw [hXY] at cxy
        simp only at cxy
        have HCB : Hid (∀ W, Below w.heap.size w W → W.cell? ⟨b, off + i * 2, none⟩ = some (.int .i64 X) ∧ W.cell? ⟨b, off + i * 2 + 1, none⟩ = some (.int .i64 Y)) := hide (fun W hW => by
          have h1 := ((HH.out.mono hW).cell hlt).2
          rw [hXY] at h1
          exact h1)
        have hiI : (i : Int) ≤ (n : Int) := by omega
        have hicI : (i : Int) ≤ (c : Int) := by omega
        obtain ⟨i1, hi1⟩ : ∃ i1, i + 1 = i1 := ⟨_, rfl⟩
        have hi1e : (i : Int) + 1 = (i1 : Int) := by omega
        have hi1I : (i1 : Int) ≤ (n : Int) := by omega
        have HU := hide (hRr.upto (k := i) (by omega))
        have hF := hRr.from (k := i1) (by omega)
        have HI1 := hide hi1
        have HOB : Hid (∀ g, u6.ownBlock = some g → w.heap.size ≤ g ∧ g < wr.heap.size) := hide (fun g hg => HO.out.lt g hg)
        have hsr : w.heap.size ≤ wr.heap.size := HB.out.size
        clear hi1 hRr cxy hXY
        go_wp2_with (at_builtin; refine wpList_append_rp wr rfl _ _ rfl wr.heap.size _ 0 [] rfl (World.ownsRow_nil _ _ _ _) _ i c (ps.take i) rfl HU.out (by omega) (Nat.le_refl _) ?_)
        intro v5 w5 hO5 hG5
        have HF5 := hide (Rp.grownN hF hG5 (fun b' off' _ => by simp [Value.ownBlock]))
        have HT5 := hide (HO.out.kept hG5 (by cases hv : u6.ownBlock <;> simp [Value.ownBlock]))
        have HB5 := hide (HB.out.grown hG5 HB.out.size (fun g hg => by simp [Value.ownBlock] at hg))
        have HO5 := hide hO5
        have hs5 : wr.heap.size ≤ w5.heap.size := hG5.size
        clear hF hO5 hG5 HU HO
        by_cases hck : c = i1
        · rw [if_pos hck, hck, Nat.sub_self, show n - i1 = 0 by omega] at HF5
          have HFI := HI1
          subst hck
          go_wp2_with (at_builtin; refine wpList_append_rp w5 rfl _ _ rfl wr.heap.size _ i (ps.take i) rfl HO5.out _ _ _ _ rfl HF5.out (by omega) hs5 ?_)
          intro v6 w6 hO6 hG6
          have HT6 := hide (HT5.out.kept hG6 (by
            cases hv : u6.ownBlock with
            | none => exact Or.inl rfl
            | some g =>
              right
              intro e5
              have h1 := HOB.out g hv
              have h2 := (HO5.out.lt g e5.symm).1
              omega))
          have HB6 := hide (HB5.out.grown hG6 HB5.out.size (fun g hg => Nat.le_trans hsr ((HO5.out.lt g hg).1)))
          obtain ⟨a6, c6, hv6⟩ := own_slice hO6
          subst hv6
          have HLS : Hid (ps.take i ++ ps.drop c = ps.take i ++ ps.drop (i + 1)) := hide (by rw [← HFI.out])
          rw [HLS.out] at hO6
          have hik : i = k := by have := HN.out; have := HFI.out; omega
          subst hik
          have HR6 := hide (Rp.of_own hO6)
          have hc6 := HR6.out.max
          have hc6' := HR6.out.cap
          unfold maxLen at hc6
          have HNE6 : Hid (∀ b' off', a6 = some ⟨b', off', none⟩ → u6.ownBlock ≠ some b' ∧ b' < w6.heap.size) := hide (fun b' off' e6 => by
            rcases hO6.2 with ⟨hv, h0⟩ | ⟨g, cap, cur, hv, hb, hg, _⟩
            · simp only [Value.slice.injEq] at hv
              rw [hv.1] at e6; cases e6
            · simp only [Value.slice.injEq] at hv
              rw [hv.1] at e6
              simp only [Option.some.injEq, Addr.mk.injEq] at e6
              obtain ⟨rfl, _, _⟩ := e6
              exact ⟨fun e7 => by have := (HOB.out g e7).2; omega, (Array.getElem?_eq_some_iff.1 hg).1⟩)
          clear hO6 hG6 HO5 HF5 HT5 HB5
          go_wp2_with fail
          go_loopw [5, 6, 9] (fun vn vt vw wr => ∃ (j N' : Nat) (T' : List Pc), j ≤ 2 ∧ N' ≤ 1000000 * (2 * i + j) ∧ T'.length ≤ 2 * i + j ∧ vw = .int .i64 j ∧ vn = .int .i64 N' ∧ Hid (([((X : Int), (Y : Int)), ((Y : Int), (X : Int))].take j).foldl (stF f e) (T, N) = (T', N')) ∧ Hid (wr.ownsRow w.heap.size 35 2 vt T'.length (flat T')) ∧ Hid (Rp wr a6 i c6 (ps.take i ++ ps.drop (i + 1))) ∧ Hid (∀ b' off', a6 = some ⟨b', off', none⟩ → vt.ownBlock ≠ some b' ∧ b' < wr.heap.size) ∧ Hid (Below w.heap.size w wr)) (fun _ _ vw _ => 2 - (intOf vw).toNat)
          case atStart => exact ⟨0, N, T, by omega, by omega, by omega, rfl, rfl, hide rfl, HT6, HR6, HNE6, HB6⟩
          case round =>
            clear HT6 HR6 HNE6 HB6 HOB
            obtain ⟨j, N', T', hj, hNb', hTb', rfl, rfl, HFJ, HTO, HRR, HNE, HBj⟩ := hrel
            obtain ⟨cX, cY⟩ := HCB.out _ HBj.out
            obtain ⟨at', ct, hvt⟩ := own_slice HTO.out
            subst hvt
            have hct := (Rp.of_own HTO.out).max
            have hct' := (Rp.of_own HTO.out).cap
            unfold maxLen at hct
            by_cases hj0 : j = 0
            · subst hj0
              have HQ : Hid (((X : Int), (Y : Int)) = ps.getD i (0, 0)) := hide HXY.out.symm
              have HQL : Hid (lf ((X : Int), (Y : Int)) = lf (ps.getD i (0, 0))) := hide (by rw [HXY.out])
              have HSTEP : Hid (([((X : Int), (Y : Int)), ((Y : Int), (X : Int))].take 1).foldl (stF f e) (T, N) = stF f e (T', N') ((X : Int), (Y : Int))) := hide (by
                have h1 := HFJ.out
                show _ = _
                rw [show [((X : Int), (Y : Int)), ((Y : Int), (X : Int))].take 1 = [((X : Int), (Y : Int)), ((Y : Int), (X : Int))].take 0 ++ [((X : Int), (Y : Int))] from rfl, List.foldl_append, h1]
                rfl)
              go_wp2_with fail
              have BA : Below wr.heap.size wr (wr.alloc (.cells #[.int .i64 (X : Int), .int .i64 (Y : Int)] 35)) := (Below.refl _ wr).alloc (Nat.le_refl _) _
              have k0 : (wr.alloc (.cells #[.int .i64 (X : Int), .int .i64 (Y : Int)] 35)).cell? ⟨wr.heap.size, 0, none⟩ = some (.int .i64 X) := by go_simp
              have k1 : (wr.alloc (.cells #[.int .i64 (X : Int), .int .i64 (Y : Int)] 35)).cell? ⟨wr.heap.size, 1, none⟩ = some (.int .i64 Y) := by go_simp
              generalize hw1 : wr.alloc (.cells #[.int .i64 (X : Int), .int .i64 (Y : Int)] 35) = w1 at *
              obtain ⟨G, hG⟩ : ∃ G, wr.heap.size = G := ⟨_, rfl⟩
              have hG1 : G < w1.heap.size := by rw [← hG]; exact World.block_lt_of_cell? _ _ k0
              rw [hG] at k0 k1
              simp only [hG]
              have HGT : Hid (∀ g, (Value.slice at' T'.length ct).ownBlock = some g → g < G) := hide (fun g hg => by have := (HTO.out.lt g hg).2; rw [hG] at this; exact this)
              have HT1 := hide (own_of HTO.out (w' := w1) (fun g _ _ hg => BA.block g hg))
              have HR1 := hide (HRR.out.mono BA)
              have HB1 := hide (HBj.out.trans (BA.mono HBj.out.size))
              have HNE1 : Hid (∀ b' off', a6 = some ⟨b', off', none⟩ → (Value.slice at' T'.length ct).ownBlock ≠ some b' ∧ b' < w1.heap.size) := hide (fun b' off' e' => ⟨(HNE.out b' off' e').1, Nat.lt_of_lt_of_le (HNE.out b' off' e').2 BA.size⟩)
              have HRT := hide (Rp.of_own HT1.out)
              obtain ⟨TL, hTL⟩ : ∃ TL, T'.length = TL := ⟨_, rfl⟩
              have HTL := hide hTL
              rw [hTL] at hTb' HT1 HNE1 HRT hct' HGT ⊢
              clear hw1 BA cX cY HTO HRR HBj HNE hG hTL
              go_loopw [11, 12] (fun vk vi wq => ∃ (t m : Nat), t ≤ TL ∧ vi = .int .i64 t ∧ vk = .bool (decide (((X : Int), (Y : Int)) ∈ T'.take t)) ∧ wq = w1.drewN m) (fun _ vi _ => TL - (intOf vi).toNat)
              case atStart => exact ⟨0, 0, by omega, rfl, rfl, rfl⟩
              case round =>
                obtain ⟨t, m, ht, rfl, rfl, rfl⟩ := hrel
                by_cases htl : t < TL
                · have htl' : (t : Int) < (TL : Int) := by omega
                  have hti := take_in T' t (by rw [HTL.out]; exact htl) ((X : Int), (Y : Int))
                  obtain ⟨b3, o3, ha3, hc3⟩ := HRT.out.cells (by omega)
                  subst ha3
                  obtain ⟨r1, r2⟩ := hc3 t htl
                  obtain ⟨⟨x, y⟩, hxy⟩ : ∃ z : Pc, T'.getD t (0, 0) = z := ⟨_, rfl⟩
                  rw [hxy] at r1 r2 hti
                  simp only at r1 r2
                  have HTI := hide hti
                  clear hc3 hxy hti
                  cases hkb : decide (((X : Int), (Y : Int)) ∈ T'.take t) with
                  | true =>
                    have HN : Hid (decide (((X : Int), (Y : Int)) ∈ T'.take (t + 1)) = true) := hide (by rw [HTI.out, hkb]; rfl)
                    clear hkb
                    go_wp2_with fail
                    go_quiet (fail)
                    go_wp2_with fail
                    go_roundw
                    case rel => exact ⟨t + 1, _, by omega, by go_num, by rw [HN.out], rfl⟩
                    case measure => simp [intOf]; omega
                  | false =>
                    by_cases hee : x = (X : Int) ∧ y = (Y : Int)
                    · have b1 : (x == (X : Int) && y == (Y : Int)) = true := by simp [hee.1, hee.2]
                      have b1a : (x == (X : Int)) = true := by simp [hee.1]
                      have b1b : (y == (Y : Int)) = true := by simp [hee.2]
                      have HN : Hid (decide (((X : Int), (Y : Int)) ∈ T'.take (t + 1)) = true) := hide (by rw [HTI.out, hkb, hee.1, hee.2]; simp)
                      clear hkb hee
                      go_wp2_with fail
                      go_quiet (fail)
                      go_wp2_with fail
                      go_roundw
                      case rel => exact ⟨t + 1, _, by omega, by go_num, by rw [HN.out], rfl⟩
                      case measure => simp [intOf]; omega
                    · have b1 : (x == (X : Int) && y == (Y : Int)) = false := by
                        rw [Bool.and_eq_false_iff]
                        simp only [beq_eq_false_iff_ne]
                        by_cases e1 : x = (X : Int)
                        · right; intro e2; exact hee ⟨e1, e2⟩
                        · left; exact e1
                      have HN : Hid (decide (((X : Int), (Y : Int)) ∈ T'.take (t + 1)) = false) := hide (by
                        rw [HTI.out, hkb, Bool.false_or, decide_eq_false_iff_not]
                        intro h1
                        simp only [Prod.mk.injEq] at h1
                        exact hee ⟨h1.1.symm, h1.2.symm⟩)
                      clear hkb hee
                      go_wp2_with fail
                      go_quiet (fail)
                      go_wp2_with fail
                      go_roundw
                      case rel => exact ⟨t + 1, _, by omega, by go_num, by rw [HN.out], rfl⟩
                      case measure => simp [intOf]; omega
                · have htl' : ¬ (t : Int) < (TL : Int) := by omega
                  have HKD : Hid (T'.take t = T') := hide (List.take_of_length_le (by rw [HTL.out]; omega))
                  rw [HKD.out]
                  have HR2 := hide (HR1.out.mono (drewN_below _ w1 m))
                  have HT2 := hide (own_of HT1.out (w' := w1.drewN m) (fun g _ _ hg => (drewN_below w1.heap.size w1 m).block g hg))
                  have HB2 := hide (HB1.out.trans (drewN_below _ w1 m))
                  have HNE2 : Hid (∀ b' off', a6 = some ⟨b', off', none⟩ → (Value.slice at' TL ct).ownBlock ≠ some b' ∧ b' < (w1.drewN m).heap.size) := hide (fun b' off' e' => ⟨(HNE1.out b' off' e').1, Nat.lt_of_lt_of_le (HNE1.out b' off' e').2 (drewN_below w1.heap.size w1 m).size⟩)
                  have k0' : (w1.drewN m).cell? ⟨G, 0, none⟩ = some (.int .i64 X) := ((drewN_below w1.heap.size w1 m).cell (p := ⟨G, 0, none⟩) hG1).trans k0
                  have k1' : (w1.drewN m).cell? ⟨G, 1, none⟩ = some (.int .i64 Y) := ((drewN_below w1.heap.size w1 m).cell (p := ⟨G, 1, none⟩) hG1).trans k1
                  generalize w1.drewN m = w2 at *
                  clear HR1 HT1 HB1 HNE1 k0 k1 HRT hG1
                  by_cases hskip : (decide (((X : Int), (Y : Int)) ∈ T') || !okE e ((X : Int), (Y : Int))) = true
                  · have HST : Hid (stF f e (T', N') ((X : Int), (Y : Int)) = (T', N')) := hide (by unfold stF; rw [if_pos hskip])
                    have HFN : Hid (([((X : Int), (Y : Int)), ((Y : Int), (X : Int))].take 1).foldl (stF f e) (T, N) = (T', N')) := hide (by rw [HSTEP.out, HST.out])
                    rw [← HTL.out] at HT2 HNE2
                    cases hkd : decide (((X : Int), (Y : Int)) ∈ T') with
                    | true =>
                      clear hskip hkd
                      go_wp2_with fail
                      go_roundw
                      case rel => exact ⟨1, N', T', by omega, by omega, by have := HTL.out; omega, by go_num, rfl, HFN, by rw [HTL.out] at HT2 ⊢; exact HT2, HR2, by rw [HTL.out] at HNE2; exact HNE2, HB2⟩
                      case measure => simp [intOf]
                    | false =>
                      have hno : ¬ (e < 0 ∨ (X : Int) = e) := by
                        rw [hkd, Bool.false_or, Bool.not_eq_true'] at hskip
                        unfold okE at hskip
                        rw [decide_eq_false_iff_not] at hskip
                        exact hskip
                      have e1 : (0 : Int) ≤ e := by omega
                      have e1' : decide ((0 : Int) ≤ e) = true := by simpa using e1
                      have e2 : ((X : Int) != e) = true := by simp; omega
                      clear hskip hkd hno
                      go_wp2_with fail
                      go_roundw
                      case rel => exact ⟨1, N', T', by omega, by omega, by have := HTL.out; omega, by go_num, rfl, HFN, by rw [HTL.out] at HT2 ⊢; exact HT2, HR2, by rw [HTL.out] at HNE2; exact HNE2, HB2⟩
                      case measure => simp [intOf]
                  · have HST : Hid (stF f e (T', N') ((X : Int), (Y : Int)) = (T' ++ [((X : Int), (Y : Int))], N' + f ((X : Int), (Y : Int)))) := hide (by unfold stF; rw [if_neg hskip])
                    rw [Bool.not_eq_true, Bool.or_eq_false_iff, Bool.not_eq_false'] at hskip
                    obtain ⟨hkd, hok⟩ := hskip
                    have hok' : e < 0 ∨ (X : Int) = e := by unfold okE at hok; rw [decide_eq_true_iff] at hok; exact hok
                    have HFN : Hid (([((X : Int), (Y : Int)), ((Y : Int), (X : Int))].take 1).foldl (stF f e) (T, N) = (T' ++ [((X : Int), (Y : Int))], N' + f ((X : Int), (Y : Int)))) := hide (by rw [HSTEP.out, HST.out])
                    have HRV : Hid (roV (ps.take i ++ ps.drop (i + 1)) (Y : Int) = f ((X : Int), (Y : Int))) := hide (by
                      rw [← HF.out]
                      exact ro_rest ps i i (by rw [HL.out, HN.out]) hzl ((X : Int), (Y : Int)) HQL.out Y rfl)
                    have hfb := HFB.out ((X : Int), (Y : Int))
                    obtain ⟨fq, hfq⟩ : ∃ fq, f ((X : Int), (Y : Int)) = fq := ⟨_, rfl⟩
                    rw [hfq] at hfb HFN HRV
                    rw [hkd]
                    clear hok hkd hfq HST
                    have BW2 : Hid (Below w2.heap.size w2 (w2.alloc (.cells #[.int .i64 (X : Int), .int .i64 (Y : Int)] 35))) := hide ((Below.refl _ w2).alloc (Nat.le_refl _) _)
                    have HT3 := hide (own_of HT2.out (w' := w2.alloc (.cells #[.int .i64 (X : Int), .int .i64 (Y : Int)] 35)) (fun g _ _ hg => BW2.out.block g hg))
                    have HO1 := hide (Rp.one w2 (X : Int) (Y : Int))
                    have HR3 := hide (HR2.out.mono BW2.out)
                    have HB3 := hide (HB2.out.trans (BW2.out.mono HB2.out.size))
                    have k0'' := (BW2.out.cell (p := ⟨G, 0, none⟩) (World.block_lt_of_cell? _ _ k0')).trans k0'
                    have k1'' := (BW2.out.cell (p := ⟨G, 1, none⟩) (World.block_lt_of_cell? _ _ k1')).trans k1'
                    have HNE3 : Hid (∀ b' off', a6 = some ⟨b', off', none⟩ → (Value.slice at' TL ct).ownBlock ≠ some b' ∧ b' < (w2.alloc (.cells #[.int .i64 (X : Int), .int .i64 (Y : Int)] 35)).heap.size) := hide (fun b' off' e' => ⟨(HNE2.out b' off' e').1, Nat.lt_of_lt_of_le (HNE2.out b' off' e').2 BW2.out.size⟩)
                    have HGN : Hid (some G ≠ (Value.slice at' TL ct).ownBlock) := hide (fun h => by have := HGT.out G h.symm; omega)
                    rcases hok' with hng | heq
                    · have e1 : ¬ (0 : Int) ≤ e := by omega
                      have e1' : decide ((0 : Int) ≤ e) = false := by simpa using e1
                      clear hng
                      go_wp2_with (at_builtin; refine wpList_append_new (w2.alloc (.cells #[.int .i64 (X : Int), .int .i64 (Y : Int)] 35)) rfl _ _ rfl w.heap.size _ TL T' rfl HT3.out _ 1 [((X : Int), (Y : Int))] rfl HO1.out (by omega) HB3.out.size ?_)
                      intro v7 w7 hO7 hG7 hpl
                      have HR7 := hide (Rp.grownN HR3.out hG7 (fun b' off' e' h => (HNE3.out b' off' e').1 h.symm))
                      have k1x := hG7.cell k1'' HGN.out
                      have HNE7 : Hid (∀ b' off', a6 = some ⟨b', off', none⟩ → v7.ownBlock ≠ some b' ∧ b' < w7.heap.size) := hide (fun b' off' e' => by
                        obtain ⟨h1, h2⟩ := HNE3.out b' off' e'
                        refine ⟨fun h => ?_, Nat.lt_of_lt_of_le h2 hG7.size⟩
                        rcases hpl with hpl | hpl
                        · rw [hpl] at h; exact h1 h
                        · rw [hpl] at h
                          simp only [Option.some.injEq, World.size_alloc] at h h2
                          omega)
                      have HB7 := hide (HB3.out.grown hG7 HB3.out.size (fun g hg => (HT3.out.lt g hg).1))
                      obtain ⟨a7, c7, hv7⟩ := own_slice hO7
                      subst hv7
                      have HO7 := hide hO7
                      clear hO7 hG7 hpl k0' k1' k0'' k1'' HT3 HR3 HB3 HNE3 HO1 BW2 HT2 HR2 HB2 HNE2
                      go_wp2_with fail
                      refine (IH.out a6 c6 (ps.take i ++ ps.drop (i + 1)) (Y : Int) w7 HR7.out (pcsB_rest ps i HP.out) (by omega) (by omega)).mono ?_
                      rintro r w8 ⟨rfl, hB8⟩
                      rw [HRV.out]
                      have HO8 := hide (own_of HO7.out (w' := w8) (fun g _ _ hg => hB8.block g hg))
                      have HR8 := hide (HR7.out.mono hB8)
                      have HNE8 : Hid (∀ b' off', a6 = some ⟨b', off', none⟩ → (Value.slice a7 (TL + 1) c7).ownBlock ≠ some b' ∧ b' < w8.heap.size) := hide (fun b' off' e' => ⟨(HNE7.out b' off' e').1, Nat.lt_of_lt_of_le (HNE7.out b' off' e').2 hB8.size⟩)
                      have HB8 := hide (HB7.out.trans (hB8.mono HB7.out.size))
                      obtain ⟨N2, hN2⟩ : ∃ N2, N' + fq = N2 := ⟨_, rfl⟩
                      have hN2e : (N' : Int) + (fq : Int) = (N2 : Int) := by omega
                      rw [hN2] at HFN
                      have HLL : Hid ((T' ++ [((X : Int), (Y : Int))]).length = TL + 1) := hide (by rw [List.length_append, HTL.out]; rfl)
                      clear hB8 hN2 HO7 HR7 HNE7 HB7 k1x
                      go_wp2_with fail
                      go_roundw
                      case rel => exact ⟨1, N2, T' ++ [((X : Int), (Y : Int))], by omega, by omega, by rw [HLL.out]; omega, by go_num, rfl, HFN, by rw [HLL.out]; exact HO8, HR8, HNE8, HB8⟩
                      case measure => simp [intOf]
                    · have e1 : (0 : Int) ≤ e := by omega
                      have e1' : decide ((0 : Int) ≤ e) = true := by simpa using e1
                      have e2 : ((X : Int) != e) = false := by simpa using heq
                      clear heq
                      go_wp2_with (at_builtin; refine wpList_append_new (w2.alloc (.cells #[.int .i64 (X : Int), .int .i64 (Y : Int)] 35)) rfl _ _ rfl w.heap.size _ TL T' rfl HT3.out _ 1 [((X : Int), (Y : Int))] rfl HO1.out (by omega) HB3.out.size ?_)
                      intro v7 w7 hO7 hG7 hpl
                      have HR7 := hide (Rp.grownN HR3.out hG7 (fun b' off' e' h => (HNE3.out b' off' e').1 h.symm))
                      have k1x := hG7.cell k1'' HGN.out
                      have HNE7 : Hid (∀ b' off', a6 = some ⟨b', off', none⟩ → v7.ownBlock ≠ some b' ∧ b' < w7.heap.size) := hide (fun b' off' e' => by
                        obtain ⟨h1, h2⟩ := HNE3.out b' off' e'
                        refine ⟨fun h => ?_, Nat.lt_of_lt_of_le h2 hG7.size⟩
                        rcases hpl with hpl | hpl
                        · rw [hpl] at h; exact h1 h
                        · rw [hpl] at h
                          simp only [Option.some.injEq, World.size_alloc] at h h2
                          omega)
                      have HB7 := hide (HB3.out.grown hG7 HB3.out.size (fun g hg => (HT3.out.lt g hg).1))
                      obtain ⟨a7, c7, hv7⟩ := own_slice hO7
                      subst hv7
                      have HO7 := hide hO7
                      clear hO7 hG7 hpl k0' k1' k0'' k1'' HT3 HR3 HB3 HNE3 HO1 BW2 HT2 HR2 HB2 HNE2
                      go_wp2_with fail
                      refine (IH.out a6 c6 (ps.take i ++ ps.drop (i + 1)) (Y : Int) w7 HR7.out (pcsB_rest ps i HP.out) (by omega) (by omega)).mono ?_
                      rintro r w8 ⟨rfl, hB8⟩
                      rw [HRV.out]
                      have HO8 := hide (own_of HO7.out (w' := w8) (fun g _ _ hg => hB8.block g hg))
                      have HR8 := hide (HR7.out.mono hB8)
                      have HNE8 : Hid (∀ b' off', a6 = some ⟨b', off', none⟩ → (Value.slice a7 (TL + 1) c7).ownBlock ≠ some b' ∧ b' < w8.heap.size) := hide (fun b' off' e' => ⟨(HNE7.out b' off' e').1, Nat.lt_of_lt_of_le (HNE7.out b' off' e').2 hB8.size⟩)
                      have HB8 := hide (HB7.out.trans (hB8.mono HB7.out.size))
                      obtain ⟨N2, hN2⟩ : ∃ N2, N' + fq = N2 := ⟨_, rfl⟩
                      have hN2e : (N' : Int) + (fq : Int) = (N2 : Int) := by omega
                      rw [hN2] at HFN
                      have HLL : Hid ((T' ++ [((X : Int), (Y : Int))]).length = TL + 1) := hide (by rw [List.length_append, HTL.out]; rfl)
                      clear hB8 hN2 HO7 HR7 HNE7 HB7 k1x
                      go_wp2_with fail
                      go_roundw
                      case rel => exact ⟨1, N2, T' ++ [((X : Int), (Y : Int))], by omega, by omega, by rw [HLL.out]; omega, by go_num, rfl, HFN, by rw [HLL.out]; exact HO8, HR8, HNE8, HB8⟩
                      case measure => simp [intOf]
            · by_cases hj1 : j = 1
              · subst hj1
                have HQL : Hid (lf ((Y : Int), (X : Int)) = lf (ps.getD i (0, 0))) := hide (by rw [HXY.out]; exact lf_turn ((X : Int), (Y : Int)))
                have HSTEP : Hid (([((X : Int), (Y : Int)), ((Y : Int), (X : Int))].take 2).foldl (stF f e) (T, N) = stF f e (T', N') ((Y : Int), (X : Int))) := hide (by
                  have h1 := HFJ.out
                  show _ = _
                  rw [show [((X : Int), (Y : Int)), ((Y : Int), (X : Int))].take 2 = [((X : Int), (Y : Int)), ((Y : Int), (X : Int))].take 1 ++ [((Y : Int), (X : Int))] from rfl, List.foldl_append, h1]
                  rfl)
                go_wp2_with fail
                have BA : Below wr.heap.size wr (wr.alloc (.cells #[.int .i64 (Y : Int), .int .i64 (X : Int)] 35)) := (Below.refl _ wr).alloc (Nat.le_refl _) _
                have k0 : (wr.alloc (.cells #[.int .i64 (Y : Int), .int .i64 (X : Int)] 35)).cell? ⟨wr.heap.size, 0, none⟩ = some (.int .i64 Y) := by go_simp
                have k1 : (wr.alloc (.cells #[.int .i64 (Y : Int), .int .i64 (X : Int)] 35)).cell? ⟨wr.heap.size, 1, none⟩ = some (.int .i64 X) := by go_simp
                generalize hw1 : wr.alloc (.cells #[.int .i64 (Y : Int), .int .i64 (X : Int)] 35) = w1 at *
                obtain ⟨G, hG⟩ : ∃ G, wr.heap.size = G := ⟨_, rfl⟩
                have hG1 : G < w1.heap.size := by rw [← hG]; exact World.block_lt_of_cell? _ _ k0
                rw [hG] at k0 k1
                simp only [hG]
                have HGT : Hid (∀ g, (Value.slice at' T'.length ct).ownBlock = some g → g < G) := hide (fun g hg => by have := (HTO.out.lt g hg).2; rw [hG] at this; exact this)
                have HT1 := hide (own_of HTO.out (w' := w1) (fun g _ _ hg => BA.block g hg))
                have HR1 := hide (HRR.out.mono BA)
                have HB1 := hide (HBj.out.trans (BA.mono HBj.out.size))
                have HNE1 : Hid (∀ b' off', a6 = some ⟨b', off', none⟩ → (Value.slice at' T'.length ct).ownBlock ≠ some b' ∧ b' < w1.heap.size) := hide (fun b' off' e' => ⟨(HNE.out b' off' e').1, Nat.lt_of_lt_of_le (HNE.out b' off' e').2 BA.size⟩)
                have HRT := hide (Rp.of_own HT1.out)
                obtain ⟨TL, hTL⟩ : ∃ TL, T'.length = TL := ⟨_, rfl⟩
                have HTL := hide hTL
                rw [hTL] at hTb' HT1 HNE1 HRT hct' HGT ⊢
                clear hw1 BA cX cY HTO HRR HBj HNE hG hTL
                go_loopw [11, 12] (fun vk vi wq => ∃ (t m : Nat), t ≤ TL ∧ vi = .int .i64 t ∧ vk = .bool (decide (((Y : Int), (X : Int)) ∈ T'.take t)) ∧ wq = w1.drewN m) (fun _ vi _ => TL - (intOf vi).toNat)
                case atStart => exact ⟨0, 0, by omega, rfl, rfl, rfl⟩
                case round =>
                  obtain ⟨t, m, ht, rfl, rfl, rfl⟩ := hrel
                  by_cases htl : t < TL
                  · have htl' : (t : Int) < (TL : Int) := by omega
                    have hti := take_in T' t (by rw [HTL.out]; exact htl) ((Y : Int), (X : Int))
                    obtain ⟨b3, o3, ha3, hc3⟩ := HRT.out.cells (by omega)
                    subst ha3
                    obtain ⟨r1, r2⟩ := hc3 t htl
                    obtain ⟨⟨x, y⟩, hxy⟩ : ∃ z : Pc, T'.getD t (0, 0) = z := ⟨_, rfl⟩
                    rw [hxy] at r1 r2 hti
                    simp only at r1 r2
                    have HTI := hide hti
                    clear hc3 hxy hti
                    cases hkb : decide (((Y : Int), (X : Int)) ∈ T'.take t) with
                    | true =>
                      have HN : Hid (decide (((Y : Int), (X : Int)) ∈ T'.take (t + 1)) = true) := hide (by rw [HTI.out, hkb]; rfl)
                      clear hkb
                      go_wp2_with fail
                      go_quiet (fail)
                      go_wp2_with fail
                      go_roundw
                      case rel => exact ⟨t + 1, _, by omega, by go_num, by rw [HN.out], rfl⟩
                      case measure => simp [intOf]; omega
                    | false =>
                      by_cases hee : x = (Y : Int) ∧ y = (X : Int)
                      · have b1 : (x == (Y : Int) && y == (X : Int)) = true := by simp [hee.1, hee.2]
                        have b1a : (x == (Y : Int)) = true := by simp [hee.1]
                        have b1b : (y == (X : Int)) = true := by simp [hee.2]
                        have HN : Hid (decide (((Y : Int), (X : Int)) ∈ T'.take (t + 1)) = true) := hide (by rw [HTI.out, hkb, hee.1, hee.2]; simp)
                        clear hkb hee
                        go_wp2_with fail
                        go_quiet (fail)
                        go_wp2_with fail
                        go_roundw
                        case rel => exact ⟨t + 1, _, by omega, by go_num, by rw [HN.out], rfl⟩
                        case measure => simp [intOf]; omega
                      · have b1 : (x == (Y : Int) && y == (X : Int)) = false := by
                          rw [Bool.and_eq_false_iff]
                          simp only [beq_eq_false_iff_ne]
                          by_cases e1 : x = (Y : Int)
                          · right; intro e2; exact hee ⟨e1, e2⟩
                          · left; exact e1
                        have HN : Hid (decide (((Y : Int), (X : Int)) ∈ T'.take (t + 1)) = false) := hide (by
                          rw [HTI.out, hkb, Bool.false_or, decide_eq_false_iff_not]
                          intro h1
                          simp only [Prod.mk.injEq] at h1
                          exact hee ⟨h1.1.symm, h1.2.symm⟩)
                        clear hkb hee
                        go_wp2_with fail
                        go_quiet (fail)
                        go_wp2_with fail
                        go_roundw
                        case rel => exact ⟨t + 1, _, by omega, by go_num, by rw [HN.out], rfl⟩
                        case measure => simp [intOf]; omega
                  · have htl' : ¬ (t : Int) < (TL : Int) := by omega
                    have HKD : Hid (T'.take t = T') := hide (List.take_of_length_le (by rw [HTL.out]; omega))
                    rw [HKD.out]
                    have HR2 := hide (HR1.out.mono (drewN_below _ w1 m))
                    have HT2 := hide (own_of HT1.out (w' := w1.drewN m) (fun g _ _ hg => (drewN_below w1.heap.size w1 m).block g hg))
                    have HB2 := hide (HB1.out.trans (drewN_below _ w1 m))
                    have HNE2 : Hid (∀ b' off', a6 = some ⟨b', off', none⟩ → (Value.slice at' TL ct).ownBlock ≠ some b' ∧ b' < (w1.drewN m).heap.size) := hide (fun b' off' e' => ⟨(HNE1.out b' off' e').1, Nat.lt_of_lt_of_le (HNE1.out b' off' e').2 (drewN_below w1.heap.size w1 m).size⟩)
                    have k0' : (w1.drewN m).cell? ⟨G, 0, none⟩ = some (.int .i64 Y) := ((drewN_below w1.heap.size w1 m).cell (p := ⟨G, 0, none⟩) hG1).trans k0
                    have k1' : (w1.drewN m).cell? ⟨G, 1, none⟩ = some (.int .i64 X) := ((drewN_below w1.heap.size w1 m).cell (p := ⟨G, 1, none⟩) hG1).trans k1
                    generalize w1.drewN m = w2 at *
                    clear HR1 HT1 HB1 HNE1 k0 k1 HRT hG1
                    by_cases hskip : (decide (((Y : Int), (X : Int)) ∈ T') || !okE e ((Y : Int), (X : Int))) = true
                    · have HST : Hid (stF f e (T', N') ((Y : Int), (X : Int)) = (T', N')) := hide (by unfold stF; rw [if_pos hskip])
                      have HFN : Hid (([((X : Int), (Y : Int)), ((Y : Int), (X : Int))].take 2).foldl (stF f e) (T, N) = (T', N')) := hide (by rw [HSTEP.out, HST.out])
                      rw [← HTL.out] at HT2 HNE2
                      cases hkd : decide (((Y : Int), (X : Int)) ∈ T') with
                      | true =>
                        clear hskip hkd
                        go_wp2_with fail
                        go_roundw
                        case rel => exact ⟨2, N', T', by omega, by omega, by have := HTL.out; omega, by go_num, rfl, HFN, by rw [HTL.out] at HT2 ⊢; exact HT2, HR2, by rw [HTL.out] at HNE2; exact HNE2, HB2⟩
                        case measure => simp [intOf]
                      | false =>
                        have hno : ¬ (e < 0 ∨ (Y : Int) = e) := by
                          rw [hkd, Bool.false_or, Bool.not_eq_true'] at hskip
                          unfold okE at hskip
                          rw [decide_eq_false_iff_not] at hskip
                          exact hskip
                        have e1 : (0 : Int) ≤ e := by omega
                        have e1' : decide ((0 : Int) ≤ e) = true := by simpa using e1
                        have e2 : ((Y : Int) != e) = true := by simp; omega
                        clear hskip hkd hno
                        go_wp2_with fail
                        go_roundw
                        case rel => exact ⟨2, N', T', by omega, by omega, by have := HTL.out; omega, by go_num, rfl, HFN, by rw [HTL.out] at HT2 ⊢; exact HT2, HR2, by rw [HTL.out] at HNE2; exact HNE2, HB2⟩
                        case measure => simp [intOf]
                    · have HST : Hid (stF f e (T', N') ((Y : Int), (X : Int)) = (T' ++ [((Y : Int), (X : Int))], N' + f ((Y : Int), (X : Int)))) := hide (by unfold stF; rw [if_neg hskip])
                      rw [Bool.not_eq_true, Bool.or_eq_false_iff, Bool.not_eq_false'] at hskip
                      obtain ⟨hkd, hok⟩ := hskip
                      have hok' : e < 0 ∨ (Y : Int) = e := by unfold okE at hok; rw [decide_eq_true_iff] at hok; exact hok
                      have HFN : Hid (([((X : Int), (Y : Int)), ((Y : Int), (X : Int))].take 2).foldl (stF f e) (T, N) = (T' ++ [((Y : Int), (X : Int))], N' + f ((Y : Int), (X : Int)))) := hide (by rw [HSTEP.out, HST.out])
                      have HRV : Hid (roV (ps.take i ++ ps.drop (i + 1)) (X : Int) = f ((Y : Int), (X : Int))) := hide (by
                        rw [← HF.out]
                        exact ro_rest ps i i (by rw [HL.out, HN.out]) hzl ((Y : Int), (X : Int)) HQL.out X rfl)
                      have hfb := HFB.out ((Y : Int), (X : Int))
                      obtain ⟨fq, hfq⟩ : ∃ fq, f ((Y : Int), (X : Int)) = fq := ⟨_, rfl⟩
                      rw [hfq] at hfb HFN HRV
                      rw [hkd]
                      clear hok hkd hfq HST
                      have BW2 : Hid (Below w2.heap.size w2 (w2.alloc (.cells #[.int .i64 (Y : Int), .int .i64 (X : Int)] 35))) := hide ((Below.refl _ w2).alloc (Nat.le_refl _) _)
                      have HT3 := hide (own_of HT2.out (w' := w2.alloc (.cells #[.int .i64 (Y : Int), .int .i64 (X : Int)] 35)) (fun g _ _ hg => BW2.out.block g hg))
                      have HO1 := hide (Rp.one w2 (Y : Int) (X : Int))
                      have HR3 := hide (HR2.out.mono BW2.out)
                      have HB3 := hide (HB2.out.trans (BW2.out.mono HB2.out.size))
                      have k0'' := (BW2.out.cell (p := ⟨G, 0, none⟩) (World.block_lt_of_cell? _ _ k0')).trans k0'
                      have k1'' := (BW2.out.cell (p := ⟨G, 1, none⟩) (World.block_lt_of_cell? _ _ k1')).trans k1'
                      have HNE3 : Hid (∀ b' off', a6 = some ⟨b', off', none⟩ → (Value.slice at' TL ct).ownBlock ≠ some b' ∧ b' < (w2.alloc (.cells #[.int .i64 (Y : Int), .int .i64 (X : Int)] 35)).heap.size) := hide (fun b' off' e' => ⟨(HNE2.out b' off' e').1, Nat.lt_of_lt_of_le (HNE2.out b' off' e').2 BW2.out.size⟩)
                      have HGN : Hid (some G ≠ (Value.slice at' TL ct).ownBlock) := hide (fun h => by have := HGT.out G h.symm; omega)
                      rcases hok' with hng | heq
                      · have e1 : ¬ (0 : Int) ≤ e := by omega
                        have e1' : decide ((0 : Int) ≤ e) = false := by simpa using e1
                        clear hng
                        go_wp2_with (at_builtin; refine wpList_append_new (w2.alloc (.cells #[.int .i64 (Y : Int), .int .i64 (X : Int)] 35)) rfl _ _ rfl w.heap.size _ TL T' rfl HT3.out _ 1 [((Y : Int), (X : Int))] rfl HO1.out (by omega) HB3.out.size ?_)
                        intro v7 w7 hO7 hG7 hpl
                        have HR7 := hide (Rp.grownN HR3.out hG7 (fun b' off' e' h => (HNE3.out b' off' e').1 h.symm))
                        have k1x := hG7.cell k1'' HGN.out
                        have HNE7 : Hid (∀ b' off', a6 = some ⟨b', off', none⟩ → v7.ownBlock ≠ some b' ∧ b' < w7.heap.size) := hide (fun b' off' e' => by
                          obtain ⟨h1, h2⟩ := HNE3.out b' off' e'
                          refine ⟨fun h => ?_, Nat.lt_of_lt_of_le h2 hG7.size⟩
                          rcases hpl with hpl | hpl
                          · rw [hpl] at h; exact h1 h
                          · rw [hpl] at h
                            simp only [Option.some.injEq, World.size_alloc] at h h2
                            omega)
                        have HB7 := hide (HB3.out.grown hG7 HB3.out.size (fun g hg => (HT3.out.lt g hg).1))
                        obtain ⟨a7, c7, hv7⟩ := own_slice hO7
                        subst hv7
                        have HO7 := hide hO7
                        clear hO7 hG7 hpl k0' k1' k0'' k1'' HT3 HR3 HB3 HNE3 HO1 BW2 HT2 HR2 HB2 HNE2
                        go_wp2_with fail
                        refine (IH.out a6 c6 (ps.take i ++ ps.drop (i + 1)) (X : Int) w7 HR7.out (pcsB_rest ps i HP.out) (by omega) (by omega)).mono ?_
                        rintro r w8 ⟨rfl, hB8⟩
                        rw [HRV.out]
                        have HO8 := hide (own_of HO7.out (w' := w8) (fun g _ _ hg => hB8.block g hg))
                        have HR8 := hide (HR7.out.mono hB8)
                        have HNE8 : Hid (∀ b' off', a6 = some ⟨b', off', none⟩ → (Value.slice a7 (TL + 1) c7).ownBlock ≠ some b' ∧ b' < w8.heap.size) := hide (fun b' off' e' => ⟨(HNE7.out b' off' e').1, Nat.lt_of_lt_of_le (HNE7.out b' off' e').2 hB8.size⟩)
                        have HB8 := hide (HB7.out.trans (hB8.mono HB7.out.size))
                        obtain ⟨N2, hN2⟩ : ∃ N2, N' + fq = N2 := ⟨_, rfl⟩
                        have hN2e : (N' : Int) + (fq : Int) = (N2 : Int) := by omega
                        rw [hN2] at HFN
                        have HLL : Hid ((T' ++ [((Y : Int), (X : Int))]).length = TL + 1) := hide (by rw [List.length_append, HTL.out]; rfl)
                        clear hB8 hN2 HO7 HR7 HNE7 HB7 k1x
                        go_wp2_with fail
                        go_roundw
                        case rel => exact ⟨2, N2, T' ++ [((Y : Int), (X : Int))], by omega, by omega, by rw [HLL.out]; omega, by go_num, rfl, HFN, by rw [HLL.out]; exact HO8, HR8, HNE8, HB8⟩
                        case measure => simp [intOf]
                      · have e1 : (0 : Int) ≤ e := by omega
                        have e1' : decide ((0 : Int) ≤ e) = true := by simpa using e1
                        have e2 : ((Y : Int) != e) = false := by simpa using heq
                        clear heq
                        go_wp2_with (at_builtin; refine wpList_append_new (w2.alloc (.cells #[.int .i64 (Y : Int), .int .i64 (X : Int)] 35)) rfl _ _ rfl w.heap.size _ TL T' rfl HT3.out _ 1 [((Y : Int), (X : Int))] rfl HO1.out (by omega) HB3.out.size ?_)
                        intro v7 w7 hO7 hG7 hpl
                        have HR7 := hide (Rp.grownN HR3.out hG7 (fun b' off' e' h => (HNE3.out b' off' e').1 h.symm))
                        have k1x := hG7.cell k1'' HGN.out
                        have HNE7 : Hid (∀ b' off', a6 = some ⟨b', off', none⟩ → v7.ownBlock ≠ some b' ∧ b' < w7.heap.size) := hide (fun b' off' e' => by
                          obtain ⟨h1, h2⟩ := HNE3.out b' off' e'
                          refine ⟨fun h => ?_, Nat.lt_of_lt_of_le h2 hG7.size⟩
                          rcases hpl with hpl | hpl
                          · rw [hpl] at h; exact h1 h
                          · rw [hpl] at h
                            simp only [Option.some.injEq, World.size_alloc] at h h2
                            omega)
                        have HB7 := hide (HB3.out.grown hG7 HB3.out.size (fun g hg => (HT3.out.lt g hg).1))
                        obtain ⟨a7, c7, hv7⟩ := own_slice hO7
                        subst hv7
                        have HO7 := hide hO7
                        clear hO7 hG7 hpl k0' k1' k0'' k1'' HT3 HR3 HB3 HNE3 HO1 BW2 HT2 HR2 HB2 HNE2
                        go_wp2_with fail
                        refine (IH.out a6 c6 (ps.take i ++ ps.drop (i + 1)) (X : Int) w7 HR7.out (pcsB_rest ps i HP.out) (by omega) (by omega)).mono ?_
                        rintro r w8 ⟨rfl, hB8⟩
                        rw [HRV.out]
                        have HO8 := hide (own_of HO7.out (w' := w8) (fun g _ _ hg => hB8.block g hg))
                        have HR8 := hide (HR7.out.mono hB8)
                        have HNE8 : Hid (∀ b' off', a6 = some ⟨b', off', none⟩ → (Value.slice a7 (TL + 1) c7).ownBlock ≠ some b' ∧ b' < w8.heap.size) := hide (fun b' off' e' => ⟨(HNE7.out b' off' e').1, Nat.lt_of_lt_of_le (HNE7.out b' off' e').2 hB8.size⟩)
                        have HB8 := hide (HB7.out.trans (hB8.mono HB7.out.size))
                        obtain ⟨N2, hN2⟩ : ∃ N2, N' + fq = N2 := ⟨_, rfl⟩
                        have hN2e : (N' : Int) + (fq : Int) = (N2 : Int) := by omega
                        rw [hN2] at HFN
                        have HLL : Hid ((T' ++ [((Y : Int), (X : Int))]).length = TL + 1) := hide (by rw [List.length_append, HTL.out]; rfl)
                        clear hB8 hN2 HO7 HR7 HNE7 HB7 k1x
                        go_wp2_with fail
                        go_roundw
                        case rel => exact ⟨2, N2, T' ++ [((Y : Int), (X : Int))], by omega, by omega, by rw [HLL.out]; omega, by go_num, rfl, HFN, by rw [HLL.out]; exact HO8, HR8, HNE8, HB8⟩
                        case measure => simp [intOf]
              · have hj2 : j = 2 := by omega
                subst hj2
                have HFE : Hid ((cl2 (ps.take (i + 1))).foldl (stF f e) ([], 0) = (T', N')) := hide (by
                  rw [cl2_take ps i hzl, List.foldl_append, HFO.out, HXY.out]
                  exact HFJ.out)
                go_wp2_with fail
                go_roundw
                case rel => exact ⟨i + 1, N', T', by omega, by omega, by omega, by go_num, rfl, HFE, HTO, HBj⟩
                case measure => simp [intOf]; omega
        · rw [if_neg hck] at HF5
          simp only [Option.map_some, Addr.add_lit] at HF5
          have HFI := HI1
          go_wp2_with (at_builtin; refine wpList_append_rp w5 rfl _ _ rfl wr.heap.size _ i (ps.take i) rfl HO5.out _ _ _ _ rfl HF5.out (by omega) hs5 ?_)
          intro v6 w6 hO6 hG6
          have HT6 := hide (HT5.out.kept hG6 (by
            cases hv : u6.ownBlock with
            | none => exact Or.inl rfl
            | some g =>
              right
              intro e5
              have h1 := HOB.out g hv
              have h2 := (HO5.out.lt g e5.symm).1
              omega))
          have HB6 := hide (HB5.out.grown hG6 HB5.out.size (fun g hg => Nat.le_trans hsr ((HO5.out.lt g hg).1)))
          obtain ⟨a6, c6, hv6⟩ := own_slice hO6
          subst hv6
          have HLS : Hid (ps.take i ++ ps.drop i1 = ps.take i ++ ps.drop (i + 1)) := hide (by rw [← HFI.out])
          obtain ⟨nr, hnr⟩ : ∃ nr, i + (n - i1) = nr := ⟨_, rfl⟩
          rw [HLS.out, hnr] at hO6
          rw [hnr]
          have hnrk : k = nr := by have h1 := hO6.1; rw [flat_length, List.length_append, List.length_take, List.length_drop, HL.out] at h1; have := HN.out; omega
          subst hnrk
          have HR6 := hide (Rp.of_own hO6)
          have hc6 := HR6.out.max
          have hc6' := HR6.out.cap
          unfold maxLen at hc6
          have HNE6 : Hid (∀ b' off', a6 = some ⟨b', off', none⟩ → u6.ownBlock ≠ some b' ∧ b' < w6.heap.size) := hide (fun b' off' e6 => by
            rcases hO6.2 with ⟨hv, h0⟩ | ⟨g, cap, cur, hv, hb, hg, _⟩
            · simp only [Value.slice.injEq] at hv
              rw [hv.1] at e6; cases e6
            · simp only [Value.slice.injEq] at hv
              rw [hv.1] at e6
              simp only [Option.some.injEq, Addr.mk.injEq] at e6
              obtain ⟨rfl, _, _⟩ := e6
              exact ⟨fun e7 => by have := (HOB.out g e7).2; omega, (Array.getElem?_eq_some_iff.1 hg).1⟩)
          clear hO6 hG6 HO5 HF5 HT5 HB5 hnr
          go_wp2_with fail
          go_loopw [5, 6, 9] (fun vn vt vw wr => ∃ (j N' : Nat) (T' : List Pc), j ≤ 2 ∧ N' ≤ 1000000 * (2 * i + j) ∧ T'.length ≤ 2 * i + j ∧ vw = .int .i64 j ∧ vn = .int .i64 N' ∧ Hid (([((X : Int), (Y : Int)), ((Y : Int), (X : Int))].take j).foldl (stF f e) (T, N) = (T', N')) ∧ Hid (wr.ownsRow w.heap.size 35 2 vt T'.length (flat T')) ∧ Hid (Rp wr a6 k c6 (ps.take i ++ ps.drop (i + 1))) ∧ Hid (∀ b' off', a6 = some ⟨b', off', none⟩ → vt.ownBlock ≠ some b' ∧ b' < wr.heap.size) ∧ Hid (Below w.heap.size w wr)) (fun _ _ vw _ => 2 - (intOf vw).toNat)
          case atStart => exact ⟨0, N, T, by omega, by omega, by omega, rfl, rfl, hide rfl, HT6, HR6, HNE6, HB6⟩
          case round =>
            clear HT6 HR6 HNE6 HB6 HOB
            obtain ⟨j, N', T', hj, hNb', hTb', rfl, rfl, HFJ, HTO, HRR, HNE, HBj⟩ := hrel
            obtain ⟨cX, cY⟩ := HCB.out _ HBj.out
            obtain ⟨at', ct, hvt⟩ := own_slice HTO.out
            subst hvt
            have hct := (Rp.of_own HTO.out).max
            have hct' := (Rp.of_own HTO.out).cap
            unfold maxLen at hct
            by_cases hj0 : j = 0
            · subst hj0
              have HQ : Hid (((X : Int), (Y : Int)) = ps.getD i (0, 0)) := hide HXY.out.symm
              have HQL : Hid (lf ((X : Int), (Y : Int)) = lf (ps.getD i (0, 0))) := hide (by rw [HXY.out])
              have HSTEP : Hid (([((X : Int), (Y : Int)), ((Y : Int), (X : Int))].take 1).foldl (stF f e) (T, N) = stF f e (T', N') ((X : Int), (Y : Int))) := hide (by
                have h1 := HFJ.out
                show _ = _
                rw [show [((X : Int), (Y : Int)), ((Y : Int), (X : Int))].take 1 = [((X : Int), (Y : Int)), ((Y : Int), (X : Int))].take 0 ++ [((X : Int), (Y : Int))] from rfl, List.foldl_append, h1]
                rfl)
              go_wp2_with fail
              have BA : Below wr.heap.size wr (wr.alloc (.cells #[.int .i64 (X : Int), .int .i64 (Y : Int)] 35)) := (Below.refl _ wr).alloc (Nat.le_refl _) _
              have k0 : (wr.alloc (.cells #[.int .i64 (X : Int), .int .i64 (Y : Int)] 35)).cell? ⟨wr.heap.size, 0, none⟩ = some (.int .i64 X) := by go_simp
              have k1 : (wr.alloc (.cells #[.int .i64 (X : Int), .int .i64 (Y : Int)] 35)).cell? ⟨wr.heap.size, 1, none⟩ = some (.int .i64 Y) := by go_simp
              generalize hw1 : wr.alloc (.cells #[.int .i64 (X : Int), .int .i64 (Y : Int)] 35) = w1 at *
              obtain ⟨G, hG⟩ : ∃ G, wr.heap.size = G := ⟨_, rfl⟩
              have hG1 : G < w1.heap.size := by rw [← hG]; exact World.block_lt_of_cell? _ _ k0
              rw [hG] at k0 k1
              simp only [hG]
              have HGT : Hid (∀ g, (Value.slice at' T'.length ct).ownBlock = some g → g < G) := hide (fun g hg => by have := (HTO.out.lt g hg).2; rw [hG] at this; exact this)
              have HT1 := hide (own_of HTO.out (w' := w1) (fun g _ _ hg => BA.block g hg))
              have HR1 := hide (HRR.out.mono BA)
              have HB1 := hide (HBj.out.trans (BA.mono HBj.out.size))
              have HNE1 : Hid (∀ b' off', a6 = some ⟨b', off', none⟩ → (Value.slice at' T'.length ct).ownBlock ≠ some b' ∧ b' < w1.heap.size) := hide (fun b' off' e' => ⟨(HNE.out b' off' e').1, Nat.lt_of_lt_of_le (HNE.out b' off' e').2 BA.size⟩)
              have HRT := hide (Rp.of_own HT1.out)
              obtain ⟨TL, hTL⟩ : ∃ TL, T'.length = TL := ⟨_, rfl⟩
              have HTL := hide hTL
              rw [hTL] at hTb' HT1 HNE1 HRT hct' HGT ⊢
              clear hw1 BA cX cY HTO HRR HBj HNE hG hTL
              go_loopw [11, 12] (fun vk vi wq => ∃ (t m : Nat), t ≤ TL ∧ vi = .int .i64 t ∧ vk = .bool (decide (((X : Int), (Y : Int)) ∈ T'.take t)) ∧ wq = w1.drewN m) (fun _ vi _ => TL - (intOf vi).toNat)
              case atStart => exact ⟨0, 0, by omega, rfl, rfl, rfl⟩
              case round =>
                obtain ⟨t, m, ht, rfl, rfl, rfl⟩ := hrel
                by_cases htl : t < TL
                · have htl' : (t : Int) < (TL : Int) := by omega
                  have hti := take_in T' t (by rw [HTL.out]; exact htl) ((X : Int), (Y : Int))
                  obtain ⟨b3, o3, ha3, hc3⟩ := HRT.out.cells (by omega)
                  subst ha3
                  obtain ⟨r1, r2⟩ := hc3 t htl
                  obtain ⟨⟨x, y⟩, hxy⟩ : ∃ z : Pc, T'.getD t (0, 0) = z := ⟨_, rfl⟩
                  rw [hxy] at r1 r2 hti
                  simp only at r1 r2
                  have HTI := hide hti
                  clear hc3 hxy hti
                  cases hkb : decide (((X : Int), (Y : Int)) ∈ T'.take t) with
                  | true =>
                    have HN : Hid (decide (((X : Int), (Y : Int)) ∈ T'.take (t + 1)) = true) := hide (by rw [HTI.out, hkb]; rfl)
                    clear hkb
                    go_wp2_with fail
                    go_quiet (fail)
                    go_wp2_with fail
                    go_roundw
                    case rel => exact ⟨t + 1, _, by omega, by go_num, by rw [HN.out], rfl⟩
                    case measure => simp [intOf]; omega
                  | false =>
                    by_cases hee : x = (X : Int) ∧ y = (Y : Int)
                    · have b1 : (x == (X : Int) && y == (Y : Int)) = true := by simp [hee.1, hee.2]
                      have b1a : (x == (X : Int)) = true := by simp [hee.1]
                      have b1b : (y == (Y : Int)) = true := by simp [hee.2]
                      have HN : Hid (decide (((X : Int), (Y : Int)) ∈ T'.take (t + 1)) = true) := hide (by rw [HTI.out, hkb, hee.1, hee.2]; simp)
                      clear hkb hee
                      go_wp2_with fail
                      go_quiet (fail)
                      go_wp2_with fail
                      go_roundw
                      case rel => exact ⟨t + 1, _, by omega, by go_num, by rw [HN.out], rfl⟩
                      case measure => simp [intOf]; omega
                    · have b1 : (x == (X : Int) && y == (Y : Int)) = false := by
                        rw [Bool.and_eq_false_iff]
                        simp only [beq_eq_false_iff_ne]
                        by_cases e1 : x = (X : Int)
                        · right; intro e2; exact hee ⟨e1, e2⟩
                        · left; exact e1
                      have HN : Hid (decide (((X : Int), (Y : Int)) ∈ T'.take (t + 1)) = false) := hide (by
                        rw [HTI.out, hkb, Bool.false_or, decide_eq_false_iff_not]
                        intro h1
                        simp only [Prod.mk.injEq] at h1
                        exact hee ⟨h1.1.symm, h1.2.symm⟩)
                      clear hkb hee
                      go_wp2_with fail
                      go_quiet (fail)
                      go_wp2_with fail
                      go_roundw
                      case rel => exact ⟨t + 1, _, by omega, by go_num, by rw [HN.out], rfl⟩
                      case measure => simp [intOf]; omega
                · have htl' : ¬ (t : Int) < (TL : Int) := by omega
                  have HKD : Hid (T'.take t = T') := hide (List.take_of_length_le (by rw [HTL.out]; omega))
                  rw [HKD.out]
                  have HR2 := hide (HR1.out.mono (drewN_below _ w1 m))
                  have HT2 := hide (own_of HT1.out (w' := w1.drewN m) (fun g _ _ hg => (drewN_below w1.heap.size w1 m).block g hg))
                  have HB2 := hide (HB1.out.trans (drewN_below _ w1 m))
                  have HNE2 : Hid (∀ b' off', a6 = some ⟨b', off', none⟩ → (Value.slice at' TL ct).ownBlock ≠ some b' ∧ b' < (w1.drewN m).heap.size) := hide (fun b' off' e' => ⟨(HNE1.out b' off' e').1, Nat.lt_of_lt_of_le (HNE1.out b' off' e').2 (drewN_below w1.heap.size w1 m).size⟩)
                  have k0' : (w1.drewN m).cell? ⟨G, 0, none⟩ = some (.int .i64 X) := ((drewN_below w1.heap.size w1 m).cell (p := ⟨G, 0, none⟩) hG1).trans k0
                  have k1' : (w1.drewN m).cell? ⟨G, 1, none⟩ = some (.int .i64 Y) := ((drewN_below w1.heap.size w1 m).cell (p := ⟨G, 1, none⟩) hG1).trans k1
                  generalize w1.drewN m = w2 at *
                  clear HR1 HT1 HB1 HNE1 k0 k1 HRT hG1
                  by_cases hskip : (decide (((X : Int), (Y : Int)) ∈ T') || !okE e ((X : Int), (Y : Int))) = true
                  · have HST : Hid (stF f e (T', N') ((X : Int), (Y : Int)) = (T', N')) := hide (by unfold stF; rw [if_pos hskip])
                    have HFN : Hid (([((X : Int), (Y : Int)), ((Y : Int), (X : Int))].take 1).foldl (stF f e) (T, N) = (T', N')) := hide (by rw [HSTEP.out, HST.out])
                    rw [← HTL.out] at HT2 HNE2
                    cases hkd : decide (((X : Int), (Y : Int)) ∈ T') with
                    | true =>
                      clear hskip hkd
                      go_wp2_with fail
                      go_roundw
                      case rel => exact ⟨1, N', T', by omega, by omega, by have := HTL.out; omega, by go_num, rfl, HFN, by rw [HTL.out] at HT2 ⊢; exact HT2, HR2, by rw [HTL.out] at HNE2; exact HNE2, HB2⟩
                      case measure => simp [intOf]
                    | false =>
                      have hno : ¬ (e < 0 ∨ (X : Int) = e) := by
                        rw [hkd, Bool.false_or, Bool.not_eq_true'] at hskip
                        unfold okE at hskip
                        rw [decide_eq_false_iff_not] at hskip
                        exact hskip
                      have e1 : (0 : Int) ≤ e := by omega
                      have e1' : decide ((0 : Int) ≤ e) = true := by simpa using e1
                      have e2 : ((X : Int) != e) = true := by simp; omega
                      clear hskip hkd hno
                      go_wp2_with fail
                      go_roundw
                      case rel => exact ⟨1, N', T', by omega, by omega, by have := HTL.out; omega, by go_num, rfl, HFN, by rw [HTL.out] at HT2 ⊢; exact HT2, HR2, by rw [HTL.out] at HNE2; exact HNE2, HB2⟩
                      case measure => simp [intOf]
                  · have HST : Hid (stF f e (T', N') ((X : Int), (Y : Int)) = (T' ++ [((X : Int), (Y : Int))], N' + f ((X : Int), (Y : Int)))) := hide (by unfold stF; rw [if_neg hskip])
                    rw [Bool.not_eq_true, Bool.or_eq_false_iff, Bool.not_eq_false'] at hskip
                    obtain ⟨hkd, hok⟩ := hskip
                    have hok' : e < 0 ∨ (X : Int) = e := by unfold okE at hok; rw [decide_eq_true_iff] at hok; exact hok
                    have HFN : Hid (([((X : Int), (Y : Int)), ((Y : Int), (X : Int))].take 1).foldl (stF f e) (T, N) = (T' ++ [((X : Int), (Y : Int))], N' + f ((X : Int), (Y : Int)))) := hide (by rw [HSTEP.out, HST.out])
                    have HRV : Hid (roV (ps.take i ++ ps.drop (i + 1)) (Y : Int) = f ((X : Int), (Y : Int))) := hide (by
                      rw [← HF.out]
                      exact ro_rest ps k i (by rw [HL.out, HN.out]) hzl ((X : Int), (Y : Int)) HQL.out Y rfl)
                    have hfb := HFB.out ((X : Int), (Y : Int))
                    obtain ⟨fq, hfq⟩ : ∃ fq, f ((X : Int), (Y : Int)) = fq := ⟨_, rfl⟩
                    rw [hfq] at hfb HFN HRV
                    rw [hkd]
                    clear hok hkd hfq HST
                    have BW2 : Hid (Below w2.heap.size w2 (w2.alloc (.cells #[.int .i64 (X : Int), .int .i64 (Y : Int)] 35))) := hide ((Below.refl _ w2).alloc (Nat.le_refl _) _)
                    have HT3 := hide (own_of HT2.out (w' := w2.alloc (.cells #[.int .i64 (X : Int), .int .i64 (Y : Int)] 35)) (fun g _ _ hg => BW2.out.block g hg))
                    have HO1 := hide (Rp.one w2 (X : Int) (Y : Int))
                    have HR3 := hide (HR2.out.mono BW2.out)
                    have HB3 := hide (HB2.out.trans (BW2.out.mono HB2.out.size))
                    have k0'' := (BW2.out.cell (p := ⟨G, 0, none⟩) (World.block_lt_of_cell? _ _ k0')).trans k0'
                    have k1'' := (BW2.out.cell (p := ⟨G, 1, none⟩) (World.block_lt_of_cell? _ _ k1')).trans k1'
                    have HNE3 : Hid (∀ b' off', a6 = some ⟨b', off', none⟩ → (Value.slice at' TL ct).ownBlock ≠ some b' ∧ b' < (w2.alloc (.cells #[.int .i64 (X : Int), .int .i64 (Y : Int)] 35)).heap.size) := hide (fun b' off' e' => ⟨(HNE2.out b' off' e').1, Nat.lt_of_lt_of_le (HNE2.out b' off' e').2 BW2.out.size⟩)
                    have HGN : Hid (some G ≠ (Value.slice at' TL ct).ownBlock) := hide (fun h => by have := HGT.out G h.symm; omega)
                    rcases hok' with hng | heq
                    · have e1 : ¬ (0 : Int) ≤ e := by omega
                      have e1' : decide ((0 : Int) ≤ e) = false := by simpa using e1
                      clear hng
                      go_wp2_with (at_builtin; refine wpList_append_new (w2.alloc (.cells #[.int .i64 (X : Int), .int .i64 (Y : Int)] 35)) rfl _ _ rfl w.heap.size _ TL T' rfl HT3.out _ 1 [((X : Int), (Y : Int))] rfl HO1.out (by omega) HB3.out.size ?_)
                      intro v7 w7 hO7 hG7 hpl
                      have HR7 := hide (Rp.grownN HR3.out hG7 (fun b' off' e' h => (HNE3.out b' off' e').1 h.symm))
                      have k1x := hG7.cell k1'' HGN.out
                      have HNE7 : Hid (∀ b' off', a6 = some ⟨b', off', none⟩ → v7.ownBlock ≠ some b' ∧ b' < w7.heap.size) := hide (fun b' off' e' => by
                        obtain ⟨h1, h2⟩ := HNE3.out b' off' e'
                        refine ⟨fun h => ?_, Nat.lt_of_lt_of_le h2 hG7.size⟩
                        rcases hpl with hpl | hpl
                        · rw [hpl] at h; exact h1 h
                        · rw [hpl] at h
                          simp only [Option.some.injEq, World.size_alloc] at h h2
                          omega)
                      have HB7 := hide (HB3.out.grown hG7 HB3.out.size (fun g hg => (HT3.out.lt g hg).1))
                      obtain ⟨a7, c7, hv7⟩ := own_slice hO7
                      subst hv7
                      have HO7 := hide hO7
                      clear hO7 hG7 hpl k0' k1' k0'' k1'' HT3 HR3 HB3 HNE3 HO1 BW2 HT2 HR2 HB2 HNE2
                      go_wp2_with fail
                      refine (IH.out a6 c6 (ps.take i ++ ps.drop (i + 1)) (Y : Int) w7 HR7.out (pcsB_rest ps i HP.out) (by omega) (by omega)).mono ?_
                      rintro r w8 ⟨rfl, hB8⟩
                      rw [HRV.out]
                      have HO8 := hide (own_of HO7.out (w' := w8) (fun g _ _ hg => hB8.block g hg))
                      have HR8 := hide (HR7.out.mono hB8)
                      have HNE8 : Hid (∀ b' off', a6 = some ⟨b', off', none⟩ → (Value.slice a7 (TL + 1) c7).ownBlock ≠ some b' ∧ b' < w8.heap.size) := hide (fun b' off' e' => ⟨(HNE7.out b' off' e').1, Nat.lt_of_lt_of_le (HNE7.out b' off' e').2 hB8.size⟩)
                      have HB8 := hide (HB7.out.trans (hB8.mono HB7.out.size))
                      obtain ⟨N2, hN2⟩ : ∃ N2, N' + fq = N2 := ⟨_, rfl⟩
                      have hN2e : (N' : Int) + (fq : Int) = (N2 : Int) := by omega
                      rw [hN2] at HFN
                      have HLL : Hid ((T' ++ [((X : Int), (Y : Int))]).length = TL + 1) := hide (by rw [List.length_append, HTL.out]; rfl)
                      clear hB8 hN2 HO7 HR7 HNE7 HB7 k1x
                      go_wp2_with fail
                      go_roundw
                      case rel => exact ⟨1, N2, T' ++ [((X : Int), (Y : Int))], by omega, by omega, by rw [HLL.out]; omega, by go_num, rfl, HFN, by rw [HLL.out]; exact HO8, HR8, HNE8, HB8⟩
                      case measure => simp [intOf]
                    · have e1 : (0 : Int) ≤ e := by omega
                      have e1' : decide ((0 : Int) ≤ e) = true := by simpa using e1
                      have e2 : ((X : Int) != e) = false := by simpa using heq
                      clear heq
                      go_wp2_with (at_builtin; refine wpList_append_new (w2.alloc (.cells #[.int .i64 (X : Int), .int .i64 (Y : Int)] 35)) rfl _ _ rfl w.heap.size _ TL T' rfl HT3.out _ 1 [((X : Int), (Y : Int))] rfl HO1.out (by omega) HB3.out.size ?_)
                      intro v7 w7 hO7 hG7 hpl
                      have HR7 := hide (Rp.grownN HR3.out hG7 (fun b' off' e' h => (HNE3.out b' off' e').1 h.symm))
                      have k1x := hG7.cell k1'' HGN.out
                      have HNE7 : Hid (∀ b' off', a6 = some ⟨b', off', none⟩ → v7.ownBlock ≠ some b' ∧ b' < w7.heap.size) := hide (fun b' off' e' => by
                        obtain ⟨h1, h2⟩ := HNE3.out b' off' e'
                        refine ⟨fun h => ?_, Nat.lt_of_lt_of_le h2 hG7.size⟩
                        rcases hpl with hpl | hpl
                        · rw [hpl] at h; exact h1 h
                        · rw [hpl] at h
                          simp only [Option.some.injEq, World.size_alloc] at h h2
                          omega)
                      have HB7 := hide (HB3.out.grown hG7 HB3.out.size (fun g hg => (HT3.out.lt g hg).1))
                      obtain ⟨a7, c7, hv7⟩ := own_slice hO7
                      subst hv7
                      have HO7 := hide hO7
                      clear hO7 hG7 hpl k0' k1' k0'' k1'' HT3 HR3 HB3 HNE3 HO1 BW2 HT2 HR2 HB2 HNE2
                      go_wp2_with fail
                      refine (IH.out a6 c6 (ps.take i ++ ps.drop (i + 1)) (Y : Int) w7 HR7.out (pcsB_rest ps i HP.out) (by omega) (by omega)).mono ?_
                      rintro r w8 ⟨rfl, hB8⟩
                      rw [HRV.out]
                      have HO8 := hide (own_of HO7.out (w' := w8) (fun g _ _ hg => hB8.block g hg))
                      have HR8 := hide (HR7.out.mono hB8)
                      have HNE8 : Hid (∀ b' off', a6 = some ⟨b', off', none⟩ → (Value.slice a7 (TL + 1) c7).ownBlock ≠ some b' ∧ b' < w8.heap.size) := hide (fun b' off' e' => ⟨(HNE7.out b' off' e').1, Nat.lt_of_lt_of_le (HNE7.out b' off' e').2 hB8.size⟩)
                      have HB8 := hide (HB7.out.trans (hB8.mono HB7.out.size))
                      obtain ⟨N2, hN2⟩ : ∃ N2, N' + fq = N2 := ⟨_, rfl⟩
                      have hN2e : (N' : Int) + (fq : Int) = (N2 : Int) := by omega
                      rw [hN2] at HFN
                      have HLL : Hid ((T' ++ [((X : Int), (Y : Int))]).length = TL + 1) := hide (by rw [List.length_append, HTL.out]; rfl)
                      clear hB8 hN2 HO7 HR7 HNE7 HB7 k1x
                      go_wp2_with fail
                      go_roundw
                      case rel => exact ⟨1, N2, T' ++ [((X : Int), (Y : Int))], by omega, by omega, by rw [HLL.out]; omega, by go_num, rfl, HFN, by rw [HLL.out]; exact HO8, HR8, HNE8, HB8⟩
                      case measure => simp [intOf]
            · by_cases hj1 : j = 1
              · subst hj1
                have HQL : Hid (lf ((Y : Int), (X : Int)) = lf (ps.getD i (0, 0))) := hide (by rw [HXY.out]; exact lf_turn ((X : Int), (Y : Int)))
                have HSTEP : Hid (([((X : Int), (Y : Int)), ((Y : Int), (X : Int))].take 2).foldl (stF f e) (T, N) = stF f e (T', N') ((Y : Int), (X : Int))) := hide (by
                  have h1 := HFJ.out
                  show _ = _
                  rw [show [((X : Int), (Y : Int)), ((Y : Int), (X : Int))].take 2 = [((X : Int), (Y : Int)), ((Y : Int), (X : Int))].take 1 ++ [((Y : Int), (X : Int))] from rfl, List.foldl_append, h1]
                  rfl)
                go_wp2_with fail
                have BA : Below wr.heap.size wr (wr.alloc (.cells #[.int .i64 (Y : Int), .int .i64 (X : Int)] 35)) := (Below.refl _ wr).alloc (Nat.le_refl _) _
                have k0 : (wr.alloc (.cells #[.int .i64 (Y : Int), .int .i64 (X : Int)] 35)).cell? ⟨wr.heap.size, 0, none⟩ = some (.int .i64 Y) := by go_simp
                have k1 : (wr.alloc (.cells #[.int .i64 (Y : Int), .int .i64 (X : Int)] 35)).cell? ⟨wr.heap.size, 1, none⟩ = some (.int .i64 X) := by go_simp
                generalize hw1 : wr.alloc (.cells #[.int .i64 (Y : Int), .int .i64 (X : Int)] 35) = w1 at *
                obtain ⟨G, hG⟩ : ∃ G, wr.heap.size = G := ⟨_, rfl⟩
                have hG1 : G < w1.heap.size := by rw [← hG]; exact World.block_lt_of_cell? _ _ k0
                rw [hG] at k0 k1
                simp only [hG]
                have HGT : Hid (∀ g, (Value.slice at' T'.length ct).ownBlock = some g → g < G) := hide (fun g hg => by have := (HTO.out.lt g hg).2; rw [hG] at this; exact this)
                have HT1 := hide (own_of HTO.out (w' := w1) (fun g _ _ hg => BA.block g hg))
                have HR1 := hide (HRR.out.mono BA)
                have HB1 := hide (HBj.out.trans (BA.mono HBj.out.size))
                have HNE1 : Hid (∀ b' off', a6 = some ⟨b', off', none⟩ → (Value.slice at' T'.length ct).ownBlock ≠ some b' ∧ b' < w1.heap.size) := hide (fun b' off' e' => ⟨(HNE.out b' off' e').1, Nat.lt_of_lt_of_le (HNE.out b' off' e').2 BA.size⟩)
                have HRT := hide (Rp.of_own HT1.out)
                obtain ⟨TL, hTL⟩ : ∃ TL, T'.length = TL := ⟨_, rfl⟩
                have HTL := hide hTL
                rw [hTL] at hTb' HT1 HNE1 HRT hct' HGT ⊢
                clear hw1 BA cX cY HTO HRR HBj HNE hG hTL
                go_loopw [11, 12] (fun vk vi wq => ∃ (t m : Nat), t ≤ TL ∧ vi = .int .i64 t ∧ vk = .bool (decide (((Y : Int), (X : Int)) ∈ T'.take t)) ∧ wq = w1.drewN m) (fun _ vi _ => TL - (intOf vi).toNat)
                case atStart => exact ⟨0, 0, by omega, rfl, rfl, rfl⟩
                case round =>
                  obtain ⟨t, m, ht, rfl, rfl, rfl⟩ := hrel
                  by_cases htl : t < TL
                  · have htl' : (t : Int) < (TL : Int) := by omega
                    have hti := take_in T' t (by rw [HTL.out]; exact htl) ((Y : Int), (X : Int))
                    obtain ⟨b3, o3, ha3, hc3⟩ := HRT.out.cells (by omega)
                    subst ha3
                    obtain ⟨r1, r2⟩ := hc3 t htl
                    obtain ⟨⟨x, y⟩, hxy⟩ : ∃ z : Pc, T'.getD t (0, 0) = z := ⟨_, rfl⟩
                    rw [hxy] at r1 r2 hti
                    simp only at r1 r2
                    have HTI := hide hti
                    clear hc3 hxy hti
                    cases hkb : decide (((Y : Int), (X : Int)) ∈ T'.take t) with
                    | true =>
                      have HN : Hid (decide (((Y : Int), (X : Int)) ∈ T'.take (t + 1)) = true) := hide (by rw [HTI.out, hkb]; rfl)
                      clear hkb
                      go_wp2_with fail
                      go_quiet (fail)
                      go_wp2_with fail
                      go_roundw
                      case rel => exact ⟨t + 1, _, by omega, by go_num, by rw [HN.out], rfl⟩
                      case measure => simp [intOf]; omega
                    | false =>
                      by_cases hee : x = (Y : Int) ∧ y = (X : Int)
                      · have b1 : (x == (Y : Int) && y == (X : Int)) = true := by simp [hee.1, hee.2]
                        have b1a : (x == (Y : Int)) = true := by simp [hee.1]
                        have b1b : (y == (X : Int)) = true := by simp [hee.2]
                        have HN : Hid (decide (((Y : Int), (X : Int)) ∈ T'.take (t + 1)) = true) := hide (by rw [HTI.out, hkb, hee.1, hee.2]; simp)
                        clear hkb hee
                        go_wp2_with fail
                        go_quiet (fail)
                        go_wp2_with fail
                        go_roundw
                        case rel => exact ⟨t + 1, _, by omega, by go_num, by rw [HN.out], rfl⟩
                        case measure => simp [intOf]; omega
                      · have b1 : (x == (Y : Int) && y == (X : Int)) = false := by
                          rw [Bool.and_eq_false_iff]
                          simp only [beq_eq_false_iff_ne]
                          by_cases e1 : x = (Y : Int)
                          · right; intro e2; exact hee ⟨e1, e2⟩
                          · left; exact e1
                        have HN : Hid (decide (((Y : Int), (X : Int)) ∈ T'.take (t + 1)) = false) := hide (by
                          rw [HTI.out, hkb, Bool.false_or, decide_eq_false_iff_not]
                          intro h1
                          simp only [Prod.mk.injEq] at h1
                          exact hee ⟨h1.1.symm, h1.2.symm⟩)
                        clear hkb hee
                        go_wp2_with fail
                        go_quiet (fail)
                        go_wp2_with fail
                        go_roundw
                        case rel => exact ⟨t + 1, _, by omega, by go_num, by rw [HN.out], rfl⟩
                        case measure => simp [intOf]; omega
                  · have htl' : ¬ (t : Int) < (TL : Int) := by omega
                    have HKD : Hid (T'.take t = T') := hide (List.take_of_length_le (by rw [HTL.out]; omega))
                    rw [HKD.out]
                    have HR2 := hide (HR1.out.mono (drewN_below _ w1 m))
                    have HT2 := hide (own_of HT1.out (w' := w1.drewN m) (fun g _ _ hg => (drewN_below w1.heap.size w1 m).block g hg))
                    have HB2 := hide (HB1.out.trans (drewN_below _ w1 m))
                    have HNE2 : Hid (∀ b' off', a6 = some ⟨b', off', none⟩ → (Value.slice at' TL ct).ownBlock ≠ some b' ∧ b' < (w1.drewN m).heap.size) := hide (fun b' off' e' => ⟨(HNE1.out b' off' e').1, Nat.lt_of_lt_of_le (HNE1.out b' off' e').2 (drewN_below w1.heap.size w1 m).size⟩)
                    have k0' : (w1.drewN m).cell? ⟨G, 0, none⟩ = some (.int .i64 Y) := ((drewN_below w1.heap.size w1 m).cell (p := ⟨G, 0, none⟩) hG1).trans k0
                    have k1' : (w1.drewN m).cell? ⟨G, 1, none⟩ = some (.int .i64 X) := ((drewN_below w1.heap.size w1 m).cell (p := ⟨G, 1, none⟩) hG1).trans k1
                    generalize w1.drewN m = w2 at *
                    clear HR1 HT1 HB1 HNE1 k0 k1 HRT hG1
                    by_cases hskip : (decide (((Y : Int), (X : Int)) ∈ T') || !okE e ((Y : Int), (X : Int))) = true
                    · have HST : Hid (stF f e (T', N') ((Y : Int), (X : Int)) = (T', N')) := hide (by unfold stF; rw [if_pos hskip])
                      have HFN : Hid (([((X : Int), (Y : Int)), ((Y : Int), (X : Int))].take 2).foldl (stF f e) (T, N) = (T', N')) := hide (by rw [HSTEP.out, HST.out])
                      rw [← HTL.out] at HT2 HNE2
                      cases hkd : decide (((Y : Int), (X : Int)) ∈ T') with
                      | true =>
                        clear hskip hkd
                        go_wp2_with fail
                        go_roundw
                        case rel => exact ⟨2, N', T', by omega, by omega, by have := HTL.out; omega, by go_num, rfl, HFN, by rw [HTL.out] at HT2 ⊢; exact HT2, HR2, by rw [HTL.out] at HNE2; exact HNE2, HB2⟩
                        case measure => simp [intOf]
                      | false =>
                        have hno : ¬ (e < 0 ∨ (Y : Int) = e) := by
                          rw [hkd, Bool.false_or, Bool.not_eq_true'] at hskip
                          unfold okE at hskip
                          rw [decide_eq_false_iff_not] at hskip
                          exact hskip
                        have e1 : (0 : Int) ≤ e := by omega
                        have e1' : decide ((0 : Int) ≤ e) = true := by simpa using e1
                        have e2 : ((Y : Int) != e) = true := by simp; omega
                        clear hskip hkd hno
                        go_wp2_with fail
                        go_roundw
                        case rel => exact ⟨2, N', T', by omega, by omega, by have := HTL.out; omega, by go_num, rfl, HFN, by rw [HTL.out] at HT2 ⊢; exact HT2, HR2, by rw [HTL.out] at HNE2; exact HNE2, HB2⟩
                        case measure => simp [intOf]
                    · have HST : Hid (stF f e (T', N') ((Y : Int), (X : Int)) = (T' ++ [((Y : Int), (X : Int))], N' + f ((Y : Int), (X : Int)))) := hide (by unfold stF; rw [if_neg hskip])
                      rw [Bool.not_eq_true, Bool.or_eq_false_iff, Bool.not_eq_false'] at hskip
                      obtain ⟨hkd, hok⟩ := hskip
                      have hok' : e < 0 ∨ (Y : Int) = e := by unfold okE at hok; rw [decide_eq_true_iff] at hok; exact hok
                      have HFN : Hid (([((X : Int), (Y : Int)), ((Y : Int), (X : Int))].take 2).foldl (stF f e) (T, N) = (T' ++ [((Y : Int), (X : Int))], N' + f ((Y : Int), (X : Int)))) := hide (by rw [HSTEP.out, HST.out])
                      have HRV : Hid (roV (ps.take i ++ ps.drop (i + 1)) (X : Int) = f ((Y : Int), (X : Int))) := hide (by
                        rw [← HF.out]
                        exact ro_rest ps k i (by rw [HL.out, HN.out]) hzl ((Y : Int), (X : Int)) HQL.out X rfl)
                      have hfb := HFB.out ((Y : Int), (X : Int))
                      obtain ⟨fq, hfq⟩ : ∃ fq, f ((Y : Int), (X : Int)) = fq := ⟨_, rfl⟩
                      rw [hfq] at hfb HFN HRV
                      rw [hkd]
                      clear hok hkd hfq HST
                      have BW2 : Hid (Below w2.heap.size w2 (w2.alloc (.cells #[.int .i64 (Y : Int), .int .i64 (X : Int)] 35))) := hide ((Below.refl _ w2).alloc (Nat.le_refl _) _)
                      have HT3 := hide (own_of HT2.out (w' := w2.alloc (.cells #[.int .i64 (Y : Int), .int .i64 (X : Int)] 35)) (fun g _ _ hg => BW2.out.block g hg))
                      have HO1 := hide (Rp.one w2 (Y : Int) (X : Int))
                      have HR3 := hide (HR2.out.mono BW2.out)
                      have HB3 := hide (HB2.out.trans (BW2.out.mono HB2.out.size))
                      have k0'' := (BW2.out.cell (p := ⟨G, 0, none⟩) (World.block_lt_of_cell? _ _ k0')).trans k0'
                      have k1'' := (BW2.out.cell (p := ⟨G, 1, none⟩) (World.block_lt_of_cell? _ _ k1')).trans k1'
                      have HNE3 : Hid (∀ b' off', a6 = some ⟨b', off', none⟩ → (Value.slice at' TL ct).ownBlock ≠ some b' ∧ b' < (w2.alloc (.cells #[.int .i64 (Y : Int), .int .i64 (X : Int)] 35)).heap.size) := hide (fun b' off' e' => ⟨(HNE2.out b' off' e').1, Nat.lt_of_lt_of_le (HNE2.out b' off' e').2 BW2.out.size⟩)
                      have HGN : Hid (some G ≠ (Value.slice at' TL ct).ownBlock) := hide (fun h => by have := HGT.out G h.symm; omega)
                      rcases hok' with hng | heq
                      · have e1 : ¬ (0 : Int) ≤ e := by omega
                        have e1' : decide ((0 : Int) ≤ e) = false := by simpa using e1
                        clear hng
                        go_wp2_with (at_builtin; refine wpList_append_new (w2.alloc (.cells #[.int .i64 (Y : Int), .int .i64 (X : Int)] 35)) rfl _ _ rfl w.heap.size _ TL T' rfl HT3.out _ 1 [((Y : Int), (X : Int))] rfl HO1.out (by omega) HB3.out.size ?_)
                        intro v7 w7 hO7 hG7 hpl
                        have HR7 := hide (Rp.grownN HR3.out hG7 (fun b' off' e' h => (HNE3.out b' off' e').1 h.symm))
                        have k1x := hG7.cell k1'' HGN.out
                        have HNE7 : Hid (∀ b' off', a6 = some ⟨b', off', none⟩ → v7.ownBlock ≠ some b' ∧ b' < w7.heap.size) := hide (fun b' off' e' => by
                          obtain ⟨h1, h2⟩ := HNE3.out b' off' e'
                          refine ⟨fun h => ?_, Nat.lt_of_lt_of_le h2 hG7.size⟩
                          rcases hpl with hpl | hpl
                          · rw [hpl] at h; exact h1 h
                          · rw [hpl] at h
                            simp only [Option.some.injEq, World.size_alloc] at h h2
                            omega)
                        have HB7 := hide (HB3.out.grown hG7 HB3.out.size (fun g hg => (HT3.out.lt g hg).1))
                        obtain ⟨a7, c7, hv7⟩ := own_slice hO7
                        subst hv7
                        have HO7 := hide hO7
                        clear hO7 hG7 hpl k0' k1' k0'' k1'' HT3 HR3 HB3 HNE3 HO1 BW2 HT2 HR2 HB2 HNE2
                        go_wp2_with fail
                        refine (IH.out a6 c6 (ps.take i ++ ps.drop (i + 1)) (X : Int) w7 HR7.out (pcsB_rest ps i HP.out) (by omega) (by omega)).mono ?_
                        rintro r w8 ⟨rfl, hB8⟩
                        rw [HRV.out]
                        have HO8 := hide (own_of HO7.out (w' := w8) (fun g _ _ hg => hB8.block g hg))
                        have HR8 := hide (HR7.out.mono hB8)
                        have HNE8 : Hid (∀ b' off', a6 = some ⟨b', off', none⟩ → (Value.slice a7 (TL + 1) c7).ownBlock ≠ some b' ∧ b' < w8.heap.size) := hide (fun b' off' e' => ⟨(HNE7.out b' off' e').1, Nat.lt_of_lt_of_le (HNE7.out b' off' e').2 hB8.size⟩)
                        have HB8 := hide (HB7.out.trans (hB8.mono HB7.out.size))
                        obtain ⟨N2, hN2⟩ : ∃ N2, N' + fq = N2 := ⟨_, rfl⟩
                        have hN2e : (N' : Int) + (fq : Int) = (N2 : Int) := by omega
                        rw [hN2] at HFN
                        have HLL : Hid ((T' ++ [((Y : Int), (X : Int))]).length = TL + 1) := hide (by rw [List.length_append, HTL.out]; rfl)
                        clear hB8 hN2 HO7 HR7 HNE7 HB7 k1x
                        go_wp2_with fail
                        go_roundw
                        case rel => exact ⟨2, N2, T' ++ [((Y : Int), (X : Int))], by omega, by omega, by rw [HLL.out]; omega, by go_num, rfl, HFN, by rw [HLL.out]; exact HO8, HR8, HNE8, HB8⟩
                        case measure => simp [intOf]
                      · have e1 : (0 : Int) ≤ e := by omega
                        have e1' : decide ((0 : Int) ≤ e) = true := by simpa using e1
                        have e2 : ((Y : Int) != e) = false := by simpa using heq
                        clear heq
                        go_wp2_with (at_builtin; refine wpList_append_new (w2.alloc (.cells #[.int .i64 (Y : Int), .int .i64 (X : Int)] 35)) rfl _ _ rfl w.heap.size _ TL T' rfl HT3.out _ 1 [((Y : Int), (X : Int))] rfl HO1.out (by omega) HB3.out.size ?_)
                        intro v7 w7 hO7 hG7 hpl
                        have HR7 := hide (Rp.grownN HR3.out hG7 (fun b' off' e' h => (HNE3.out b' off' e').1 h.symm))
                        have k1x := hG7.cell k1'' HGN.out
                        have HNE7 : Hid (∀ b' off', a6 = some ⟨b', off', none⟩ → v7.ownBlock ≠ some b' ∧ b' < w7.heap.size) := hide (fun b' off' e' => by
                          obtain ⟨h1, h2⟩ := HNE3.out b' off' e'
                          refine ⟨fun h => ?_, Nat.lt_of_lt_of_le h2 hG7.size⟩
                          rcases hpl with hpl | hpl
                          · rw [hpl] at h; exact h1 h
                          · rw [hpl] at h
                            simp only [Option.some.injEq, World.size_alloc] at h h2
                            omega)
                        have HB7 := hide (HB3.out.grown hG7 HB3.out.size (fun g hg => (HT3.out.lt g hg).1))
                        obtain ⟨a7, c7, hv7⟩ := own_slice hO7
                        subst hv7
                        have HO7 := hide hO7
                        clear hO7 hG7 hpl k0' k1' k0'' k1'' HT3 HR3 HB3 HNE3 HO1 BW2 HT2 HR2 HB2 HNE2
                        go_wp2_with fail
                        refine (IH.out a6 c6 (ps.take i ++ ps.drop (i + 1)) (X : Int) w7 HR7.out (pcsB_rest ps i HP.out) (by omega) (by omega)).mono ?_
                        rintro r w8 ⟨rfl, hB8⟩
                        rw [HRV.out]
                        have HO8 := hide (own_of HO7.out (w' := w8) (fun g _ _ hg => hB8.block g hg))
                        have HR8 := hide (HR7.out.mono hB8)
                        have HNE8 : Hid (∀ b' off', a6 = some ⟨b', off', none⟩ → (Value.slice a7 (TL + 1) c7).ownBlock ≠ some b' ∧ b' < w8.heap.size) := hide (fun b' off' e' => ⟨(HNE7.out b' off' e').1, Nat.lt_of_lt_of_le (HNE7.out b' off' e').2 hB8.size⟩)
                        have HB8 := hide (HB7.out.trans (hB8.mono HB7.out.size))
                        obtain ⟨N2, hN2⟩ : ∃ N2, N' + fq = N2 := ⟨_, rfl⟩
                        have hN2e : (N' : Int) + (fq : Int) = (N2 : Int) := by omega
                        rw [hN2] at HFN
                        have HLL : Hid ((T' ++ [((Y : Int), (X : Int))]).length = TL + 1) := hide (by rw [List.length_append, HTL.out]; rfl)
                        clear hB8 hN2 HO7 HR7 HNE7 HB7 k1x
                        go_wp2_with fail
                        go_roundw
                        case rel => exact ⟨2, N2, T' ++ [((Y : Int), (X : Int))], by omega, by omega, by rw [HLL.out]; omega, by go_num, rfl, HFN, by rw [HLL.out]; exact HO8, HR8, HNE8, HB8⟩
                        case measure => simp [intOf]
              · have hj2 : j = 2 := by omega
                subst hj2
                have HFE : Hid ((cl2 (ps.take (i + 1))).foldl (stF f e) ([], 0) = (T', N')) := hide (by
                  rw [cl2_take ps i hzl, List.foldl_append, HFO.out, HXY.out]
                  exact HFJ.out)
                go_wp2_with fail
                go_roundw
                case rel => exact ⟨i + 1, N', T', by omega, by omega, by omega, by go_num, rfl, HFE, HTO, HBj⟩
                case measure => simp [intOf]; omega
      · have hlt' : ¬ (i : Int) < (n : Int) := by omega
        obtain rfl : i = n := by omega
        have hNV : N = V := by
          have h1 := HFO.out
          rw [List.take_of_length_le (by rw [HL.out]; exact Nat.le_refl _)] at h1
          have h2 := ro_fold ps HP.out k (by rw [HL.out, HN.out]) e he2
          rw [HF.out, h1, HV.out] at h2
          exact h2
        have HNV := hide hNV
        clear hNV
        go_wp2_with fail
        go_ret
        exact ⟨ret_intN (by rw [HNV.out]), HB.out⟩

end Go.Proofs.Ytjcglpnpdalcjaa
