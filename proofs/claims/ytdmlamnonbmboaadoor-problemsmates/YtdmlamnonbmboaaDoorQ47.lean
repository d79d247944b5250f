/-
  Chess problems: in how many moves the mover mates, as the document says it, walked. No conditions beyond those that each theorem bears.
  Chess problems: the places that a side covers, as the document finds them and as the program does: the same. No conditions beyond those that each theorem bears.
-/
import Derived.Test.YtdmlamnonbmboaaDoorQ38
import Derived.Test.YtdmlamnonbmboaaDoorQ45
import Derived.Test.YtdmlamnonbmboaaDoorQ46
import Derived.Test.YtdmlamnonbmboaaDoorQ16
import Derived.Test.YtdmlamnonbmboaaDoorQ10
namespace Go.Proofs.YtdmlamnonbmboaaDoor
open Go.RowKit Go.Shelf

theorem msP_eq (n : Nat) (p : Ps) : msP n p = (mvs p).filter fun m => lsP n (nxP p m) := rfl

attribute [local irreducible] mvs nxP lsP cmP msP mtR
attribute [local go_sem] Oper.semAt_some wide_fn wide_fn0 wide_depth

set_option maxRecDepth 100000 in
set_option maxHeartbeats 16000000 in
theorem MateOf_any (a : Option Addr) (c : Nat) (p : Ps) (hM : MayP p) (mn : Nat) (hm : 1 ≤ mn ∧ mn ≤ 2) (w : World) (hR : Rd w a 64 c p.Z) :
    Calls Tryd.prog 11 #[.agg (chP a c p), .int .i64 (mn : Nat)] w fun r w' => ∃ ad cp, r = .returned (.tuple #[.int .i64 ((mtR p mn).1 : Nat), .slice ad (mtR p mn).2.length cp]) ∧ Rm3 w' ad (mtR p mn).2.length cp (mtR p mn).2 ∧ Below w.heap.size w w' := by
  obtain ⟨w1, hw1⟩ : ∃ w1, w.alloc (.cells (chP a c p) 24) = w1 := ⟨_, rfl⟩
  obtain ⟨g, hg⟩ : ∃ g, w.heap.size = g := ⟨_, rfl⟩
  have B1 : Below w.heap.size w w1 := by rw [← hw1]; exact (Below.refl _ w).alloc (Nat.le_refl _) _
  have C1 : Ch w1 g a 64 c (p.t : Nat) (p.k : Nat) p.e (p.h : Nat) (p.f : Nat) := by rw [← hw1, ← hg]; exact Ch.new w a 64 c _ _ _ _ _
  have hR1 := hR.mono B1
  have HMA := hide (MovesAll_any a c p hM w1 hR1)
  have HCH : Hid (∀ W, Below w1.heap.size w1 W → Ch W g a 64 c (p.t : Nat) (p.k : Nat) p.e (p.h : Nat) (p.f : Nat)) := hide (fun W hb => C1.below hb C1.lt)
  have HDN : Hid (∀ m ∈ mvs p, ∀ W, Below w1.heap.size w1 W → Calls Tryd.prog 30 #[.agg (chP a c p), .agg (mvC m).toArray] W fun r w' => ∃ rb c', r = .returned (.agg (chP (some ⟨rb, 0, none⟩) c' (nxP p m))) ∧ Rd w' (some ⟨rb, 0, none⟩) 64 c' (nxP p m).Z ∧ W.heap.size ≤ rb ∧ Below W.heap.size W w') := hide (fun m hm W hb => done_nx a c p hM m hm W (hR1.mono hb))
  have HIH := hide (fun i (hi : i ≤ 9) m (hm : m ∈ mvs p) a' c' W (h : Rd W a' 64 c' (nxP p m).Z) => movesMates_any i hi (nxP p m) (may_nx hM hm) a' c' W h)
  have HFL := hide (fun i => msP_eq i p)
  have HHT := hide (fun i (hi : i < mn) => mtR_hit (p := p) (i := i) hm hi)
  have HNN := hide (mtR_none (p := p) hm)
  have HB1 := hide B1
  have HMM := hide hm
  obtain ⟨XS, hXS⟩ : ∃ XS, mvs p = XS := ⟨_, rfl⟩
  rw [hXS] at HMA HDN HIH HFL
  have hXL : XS.length ≤ 16384 := by rw [← hXS]; exact mvs_len p
  clear B1 hR hR1 hM hXS hm
  go_enter Tryd.func11, Tryd.ntmps11
  go_upto_region 1 with fail
  try rw [hg]
  clear hw1 hg
  go_wp2_with (refine wpList_load_ch rfl (.tmp 2) rfl g rfl C1 ?_)
  refine HMA.out.mono ?_
  rintro r w2 ⟨ad, cp, rfl, hO, hb2⟩
  obtain ⟨hlen, hcp, hcm, hcells⟩ := (Mr.of_own hO).at
  obtain ⟨M, hMl⟩ : ∃ M, XS.length = M := ⟨_, rfl⟩
  rw [hMl] at hXL hcp hcells
  have HML := hide hMl
  have HCL := hide hcells
  have HB2 := hide hb2
  unfold maxLen at hcm
  try rw [hMl]
  clear hO hb2 hcells hlen hMl C1 HMA
  go_wp2_with fail
  go_loopw [7] (fun v wr => ∃ i : Nat, v = .int .i64 ((i : Nat) + 1 : Int) ∧ i ≤ mn ∧ Hid (∀ j, j < i → msP j p = []) ∧ Hid (Below w2.heap.size w2 wr)) (fun v _ => 4 - (intOf v).toNat)
  case atStart => exact ⟨0, rfl, by omega, hide (fun j hj => absurd hj (by omega)), hide (Below.refl _ _)⟩
  case round =>
    obtain ⟨i, rfl, hi, hall, hbo⟩ := hrel
    obtain ⟨mn1, mn2⟩ := HMM.out
    by_cases hlt : i < mn
    · have hlt' : (i : Int) + 1 ≤ (mn : Int) := by omega
      have HII := hide (fun m hm a' c' W h => HIH.out i (by omega) m hm a' c' W h)
      have HHI := hide (fun hn => HHT.out i hlt hall.out hn)
      have HFI := hide (HFL.out i)
      obtain ⟨nv, hnv⟩ : ∃ nv : Int, ((i + 1 : Nat) : Int) = nv := ⟨_, rfl⟩
      rw [hnv] at HII
      have hnv' : (i : Int) + 1 = nv := by rw [← hnv]; omega
      rw [hnv'] at hlt' ⊢
      have HNV := hide hnv'
      obtain ⟨QF, hQF⟩ : ∃ QF : Nat × Nat × Nat → Bool, (fun m => lsP i (nxP p m)) = QF := ⟨_, rfl⟩
      have HQF : Hid (∀ m, lsP i (nxP p m) = QF m) := hide (fun m => by rw [← hQF])
      rw [hQF] at HFI
      clear hnv hnv' hQF HIH HHT
      go_wp2_with fail
      go_loopw [8, 9] (fun u v wr => ∃ (k N cp' : Nat) (ad' : Option Addr) (L : List (Nat × Nat × Nat)), v = .int .i64 (k : Nat) ∧ k ≤ M ∧ N ≤ k ∧ u = .slice ad' N cp' ∧ Hid (L = (XS.take k).filter QF ∧ L.length = N) ∧ Hid (wr.ownsRow w2.heap.size 42 3 (.slice ad' N cp') N (flM L)) ∧ Hid (Below w2.heap.size w2 wr)) (fun _ v _ => M - (intOf v).toNat)
      case atStart => exact ⟨0, 0, 0, none, [], rfl, by omega, by omega, rfl, hide ⟨rfl, rfl⟩, hide (World.ownsRow_nil _ _ _ _), hbo⟩
      case round =>
        clear hbo
        obtain ⟨k, N, cp', ad', L, rfl, hk, hNk, rfl, hL, hO, hb⟩ := hrel
        by_cases hkl : k < M
        · have hkl' : (k : Int) < (M : Int) := by omega
          obtain ⟨m, hm⟩ : ∃ m, XS[k]? = some m := ⟨XS[k]'(by rw [HML.out]; exact hkl), List.getElem?_eq_getElem _⟩
          obtain ⟨mb, rfl, hc⟩ := HCL.out (by omega)
          have hmm : m ∈ XS := List.mem_of_getElem? hm
          have HDm := hide (HDN.out m hmm)
          have HIm := hide (HII.out m hmm)
          rw [HQF.out m] at HIm
          have HNX : Hid ((XS.take (k + 1)).filter QF = L ++ if QF m = true then [m] else []) := hide (by
            rw [List.take_add_one, hm, List.filter_append, ← hL.out.1]
            simp only [Option.toList_some, List.filter_cons, List.filter_nil])
          have HBX : Hid (∀ W, Below wr.heap.size wr W → Below w2.heap.size w2 W) := hide (fun W hW => hb.out.trans (hW.mono hb.out.size))
          have HBY : Hid (∀ W, Below wr.heap.size wr W → Below w1.heap.size w1 W) := hide (fun W hW => HB2.out.trans ((HBX.out W hW).mono HB2.out.size))
          have HCM : Hid (∀ W, Below wr.heap.size wr W → W.cell? ⟨mb, k * 3, none⟩ = some (.int .i64 (m.1 : Nat)) ∧ W.cell? ⟨mb, k * 3 + 1, none⟩ = some (.int .i64 (m.2.1 : Nat)) ∧ W.cell? ⟨mb, k * 3 + 2, none⟩ = some (.int .i64 (m.2.2 : Nat))) := hide (fun W hW => by
            have hbb := HBX.out W hW
            obtain ⟨z1, z2, z3⟩ := hc k m hm
            exact ⟨(hbb.cell (p := ⟨mb, k * 3, none⟩) (World.block_lt_of_cell? w2 _ z1)).trans z1, (hbb.cell (p := ⟨mb, k * 3 + 1, none⟩) (World.block_lt_of_cell? w2 _ z2)).trans z2, (hbb.cell (p := ⟨mb, k * 3 + 2, none⟩) (World.block_lt_of_cell? w2 _ z3)).trans z3⟩)
          clear hmm hm hc
          go_upto_region 9 with fail
          refine wp_region_held (S := fun W5 => Below wr.heap.size wr W5) (by kernel_rfl) ?_
          change wpAnyH _ _ _ _ _ _ _ _ (World.drew _)
          have SW : (fun W5 => Below wr.heap.size wr W5) wr.drew := (Below.refl _ _).drew
          generalize hwd : wr.drew = wd at SW ⊢
          clear hwd
          refine wpAnyH_take (i := 0) (v := .agg (chP a c p)) rfl (by kernel_rfl) (by kernel_rfl) (by kernel_rfl) (fun _ _ _ h => h) (yieldsIf_load_mid (by rfl) 24 _ rfl g 0 (by rfl) [.slice a 64 c, .int .i64 (p.t : Nat), .int .i64 (p.k : Nat), .int .i64 p.e, .int .i64 (p.h : Nat), .int .i64 (p.f : Nat)] _ (fun W hW => (show Vb W g 24 [.slice a 64 c, .int .i64 (p.t : Nat), .int .i64 (p.k : Nat), .int .i64 p.e, .int .i64 (p.h : Nat), .int .i64 (p.f : Nat)] from HCH.out W (HBY.out W hW)).range) Tryd.underlying24 rfl size24) SW ?_
          go_simp
          refine wpAnyH_take (i := 1) (v := .slice (some ⟨mb, 0, none⟩) M cp) rfl (by kernel_rfl) (by kernel_rfl) (by kernel_rfl) (fun _ _ _ h => h) (Or.inl ⟨by rfl, ?_⟩) SW ?_
          · intro W5 hW5
            go_simp <;> first | done | rfl | (rw [IntKind.wrap_i64]; omega) | omega
          go_simp
          refine wpAnyH_take (i := 2) (v := .int .i64 (k : Nat)) rfl (by kernel_rfl) (by kernel_rfl) (by kernel_rfl) (fun _ _ _ h => h) (Or.inl ⟨by rfl, ?_⟩) SW ?_
          · intro W5 hW5
            go_simp <;> first | done | rfl | (rw [IntKind.wrap_i64]; omega) | omega
          go_simp
          refine wpAnyH_take (i := 3) (v := .pointer (some ⟨mb, k * 3, none⟩)) rfl (by kernel_rfl) (by kernel_rfl) (by kernel_rfl) (fun _ _ _ h => h) (Or.inl ⟨by rfl, ?_⟩) SW ?_
          · intro W5 hW5
            go_simp <;> first | done | rfl | (rw [IntKind.wrap_i64]; omega) | omega
          go_simp
          refine wpAnyH_take (i := 4) (v := .agg (mvC m).toArray) rfl (by kernel_rfl) (by kernel_rfl) (by kernel_rfl) (fun _ _ _ h => h) (Or.inl ⟨by rfl, ?_⟩) SW ?_
          · intro W5 hW5
            obtain ⟨y0, y1, y2⟩ := HCM.out W5 hW5
            go_simp <;> first | done | rfl | (rw [IntKind.wrap_i64]; omega) | omega
          go_simp
          refine wpAnyH_take (i := 6) (v := .int .i64 nv) rfl (by kernel_rfl) (by kernel_rfl) (by kernel_rfl) (fun _ _ _ h => h) (Or.inl ⟨by rfl, ?_⟩) SW ?_
          · intro W5 hW5
            go_simp <;> first | done | rfl | (rw [IntKind.wrap_i64]; omega) | omega
          go_simp
          refine wpAnyH_ready (rs := [5]) (by kernel_rfl) (by simp) ?_
          refine AllReadyH.cons rfl (fun K1 hK1 => ?_) AllReadyH.nil
          go_simp
          refine (HDm.out _ (HBY.out _ SW)).mono ?_
          rintro r w9 ⟨rb, c', rfl, hrd, -, hb9⟩
          have SWb := SW.trans (hb9.mono SW.size)
          refine hK1.out _ _ SWb (fun SW => ?_)
          clear hK1 K1 SWb
          have HRD := hide hrd
          clear hrd hb9
          go_simp
          refine wpAnyH_ready (rs := [7]) (by kernel_rfl) (by simp) ?_
          refine AllReadyH.cons rfl (fun K1 hK1 => ?_) AllReadyH.nil
          go_simp
          refine (HIm.out _ _ _ HRD.out).mono ?_
          rintro r w9 ⟨rfl, hb9⟩
          have SWb := SW.trans (hb9.mono SW.size)
          refine hK1.out _ _ SWb (fun SW => ?_)
          clear hK1 K1 SWb
          clear hb9
          go_simp
          refine wpAnyH_done (by kernel_rfl) ?_ _
          rename World => we
          have HSW : Hid (Below wr.heap.size wr we) := hide SW
          have HOe : Hid (we.ownsRow w2.heap.size 42 3 (.slice ad' N cp') N (flM L)) := hide (own_blk hO.out (fun q hq => SW.block q (hO.out.lt q hq).2))
          have HBe : Hid (Below w2.heap.size w2 we) := hide (HBX.out _ SW)
          obtain ⟨y0, y1, y2⟩ := HCM.out we SW
          clear SW hO hb
          cases hq : QF m with
          | true =>
            have HNE : Hid ((XS.take (k + 1)).filter QF = L ++ [m]) := hide (by rw [HNX.out, hq]; rfl)
            have hsz := HBe.out.size
            have hOa := HOe.out.alloc (.cells (mvC m).toArray 42)
            have VB : Vb (World.alloc we (.cells (mvC m).toArray 42)) we.heap.size 42 (mvC m) := Vb.new we 42 _
            have hBa := HBe.out.alloc hsz (.cells (mvC m).toArray 42)
            have hsa : w2.heap.size ≤ (World.alloc we (.cells (mvC m).toArray 42)).heap.size := by rw [World.size_alloc]; omega
            clear hq HNX
            go_wp2_with (at_builtin; refine wpList_append_m _ rfl _ _ rfl w2.heap.size _ N L rfl hOa we.heap.size m rfl VB (by omega) hsa ?_)
            intro v' w6 hO6 hg6 hst
            obtain ⟨ad6, cp6, rfl⟩ := own_form26 hO6
            have HB6 : Hid (Below w2.heap.size w2 w6) := hide (grown_below hBa hOa hg6 hsa)
            have HO6 := hide hO6
            clear hO6 hg6 hst hBa VB hOa hsa
            go_wp2_with fail
            exact ⟨⟨k + 1, N + 1, cp6, ad6, L ++ [m], by go_num, by omega, by omega, rfl, hide ⟨HNE.out.symm, by rw [List.length_append, hL.out.2]; rfl⟩, HO6, HB6⟩, by simp [intOf]; omega⟩
          | false =>
            have HNE : Hid ((XS.take (k + 1)).filter QF = L) := hide (by rw [HNX.out, hq]; simp)
            clear hq HNX
            go_wp2_with fail
            exact ⟨⟨k + 1, N, cp', ad', L, by go_num, by omega, by omega, rfl, hide ⟨HNE.out.symm, hL.out.2⟩, HOe, HBe⟩, by simp [intOf]; omega⟩
        · obtain rfl : k = M := by omega
          have HLE : Hid (L = msP i p) := hide (by rw [HFI.out, hL.out.1, ← HML.out, List.take_length])
          have HLN := hide hL.out.2
          have HBW : Hid (Below w.heap.size w wr) := hide (HB1.out.trans ((HB2.out.trans (hb.out.mono HB2.out.size)).mono HB1.out.size))
          clear hL
          by_cases hN : 0 < N
          · have hN' : (0 : Int) < (N : Int) := by omega
            have HE := hide (HHI.out (fun e => by have h1 := HLE.out; rw [e] at h1; have h2 := HLN.out; rw [h1] at h2; simp at h2; omega))
            go_wp2_with fail
            try simp only [Exit.inBlock, Exit.then]
            refine bodyPost_ret (results_tmp2 rfl _ _ _) rfl ?_
            rw [HE.out, ← HLE.out]
            have hn := HLN.out
            have hnv := HNV.out
            refine ⟨ad', cp', ?_, ?_, HBW.out⟩
            · rw [hn, ← hnv]; rfl
            · have h1 := hO.out
              rw [← hn] at h1
              have h2 := Rm3.of (Mr.of_own h1)
              show Rm3 _ ad' L.length cp' L
              exact h2
          · have hN' : ¬ (0 : Int) < (N : Int) := by omega
            have HA : Hid (∀ j, j < i + 1 → msP j p = []) := hide (fun j hj => by
              by_cases e : j = i
              · subst e
                rw [← HLE.out]
                exact List.eq_nil_of_length_eq_zero (by have := HLN.out; omega)
              · exact hall.out j (by omega))
            have hnv := HNV.out
            go_wp2_with fail
            refine ⟨⟨i + 1, ?_, by omega, HA, hb⟩, ?_⟩
            · rw [← hnv]; go_num
            · rw [← hnv]; simp [intOf]; omega
    · obtain rfl : i = mn := by omega
      have HE := hide (HNN.out hall.out)
      have HBW : Hid (Below w.heap.size w wr) := hide (HB1.out.trans ((HB2.out.trans (hbo.out.mono HB2.out.size)).mono HB1.out.size))
      have hlt' : ¬ (i : Int) + 1 ≤ (i : Int) := by omega
      go_wp2_with fail
      try simp only [Exit.inBlock, Exit.then]
      refine bodyPost_ret (results_tmp2 rfl _ _ _) rfl ?_
      rw [HE.out]
      exact ⟨none, 0, rfl, ⟨rfl, Nat.le_refl 0, by decide, fun h => absurd h (by decide)⟩, HBW.out⟩

end Go.Proofs.YtdmlamnonbmboaaDoor

namespace Go.Proofs.YtdmlamnonbmboaaDoor
open Go.RowKit Go.Shelf

/-- Does a side cover a place, as the document says it? -/
def cvB (Z : List Int) (b t : Nat) : Bool := decide (atL Z t b ≠ [])
/-- Does one of its pieces on the first j places reach it? -/
def cvS (Z : List Int) (b j t : Nat) : Bool := (List.range j).any fun i => ownB Z b i && decide (t ∈ rch Z (zg Z i) i)
/-- The places that a side covers. -/
def cvL (Z : List Int) (b n : Nat) : List Nat := (List.range n).filter (cvB Z b)

theorem cvS_zero (Z : List Int) (b t : Nat) : cvS Z b 0 t = false := rfl
theorem cvS_succ (Z : List Int) (b j t : Nat) : cvS Z b (j + 1) t = (cvS Z b j t || (ownB Z b j && decide (t ∈ rch Z (zg Z j) j))) := by
  unfold cvS
  rw [List.range_succ, List.any_append]
  simp
theorem cv_sd {Z : List Int} {b q : Nat} (hb : b ≤ 1) : ownB Z b q = (sd (zg Z q) == (b : Int)) := by
  unfold ownB pci sd
  rw [Bool.eq_iff_iff, decide_eq_true_iff, beq_iff_eq]
  rcases (show b = 0 ∨ b = 1 by omega) with rfl | rfl
  · rw [if_pos rfl]
    split
    · simp_all
    · split <;> simp_all
  · rw [if_neg (by decide)]
    split
    · simp_all; omega
    · split
      · simp_all
      · simp_all
theorem cv_kx {Z : List Int} {b q : Nat} (hz : Pz Z) (h : ownB Z b q = true) : KX (zg Z q) := by
  have h1 := hz.2 q
  unfold ownB pci at h
  have h2 := of_decide_eq_true h
  unfold KX
  split at h2 <;> omega
theorem cv_all {Z : List Int} {b t : Nat} (hz : Pz Z) (hb : b ≤ 1) (ht : t < 64) : cvS Z b 64 t = cvB Z b t := by
  unfold cvS cvB
  rw [Bool.eq_iff_iff, List.any_eq_true, decide_eq_true_iff]
  have hne : atL Z t b ≠ [] ↔ ∃ i, i ∈ atL Z t b := by
    constructor
    · intro h
      cases hl : atL Z t b with
      | nil => exact absurd hl h
      | cons x r => exact ⟨x, by simp⟩
    · rintro ⟨i, hi⟩ h
      rw [h] at hi
      cases hi
  rw [hne]
  constructor
  · rintro ⟨i, hi, h⟩
    rw [Bool.and_eq_true, decide_eq_true_iff] at h
    have hi64 := List.mem_range.1 hi
    refine ⟨i, ?_⟩
    unfold atL
    rw [List.mem_filter, Bool.and_eq_true]
    exact ⟨hi, by rw [← cv_sd hb]; exact h.1, (rch_iff Z hi64 ht (cv_kx hz h.1)).2 h.2⟩
  · rintro ⟨i, h⟩
    unfold atL at h
    rw [List.mem_filter, Bool.and_eq_true] at h
    have ho : ownB Z b i = true := by rw [cv_sd hb]; exact h.2.1
    refine ⟨i, h.1, ?_⟩
    rw [Bool.and_eq_true, decide_eq_true_iff]
    exact ⟨ho, (rch_iff Z (List.mem_range.1 h.1) ht (cv_kx hz ho)).1 h.2.2⟩
theorem cvL_zero (Z : List Int) (b : Nat) : cvL Z b 0 = [] := rfl
theorem cvL_in {Z : List Int} {b j : Nat} (h : cvB Z b j = true) : cvL Z b (j + 1) = cvL Z b j ++ [j] := by
  unfold cvL; rw [List.range_succ, List.filter_append]; simp [h]
theorem cvL_out {Z : List Int} {b j : Nat} (h : cvB Z b j = false) : cvL Z b (j + 1) = cvL Z b j := by
  unfold cvL; rw [List.range_succ, List.filter_append]; simp [h]
theorem cvL_len (Z : List Int) (b j : Nat) : (cvL Z b j).length ≤ j := Nat.le_trans (List.length_filter_le _ _) (by simp)

end Go.Proofs.YtdmlamnonbmboaaDoor
