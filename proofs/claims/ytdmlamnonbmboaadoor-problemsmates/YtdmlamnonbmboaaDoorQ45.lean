/-
  Chess: what the document makes of a position by one of its moves; a row of moves, read. No conditions beyond those that each theorem bears.
  Chess problems: whether there is a mate in so many moves, as the document says it, walked. No conditions beyond those that each theorem bears.
-/
import Derived.Test.YtdmlamnonbmboaaDoorQ44
import Derived.Test.YtdmlamnonbmboaaDoorQ36
import Derived.Test.YtdmlamnonbmboaaDoorQ41
import Derived.Test.YtdmlamnonbmboaaDoorQ37
import Derived.Test.YtdmlamnonbmboaaDoorQ10
namespace Go.Proofs.YtdmlamnonbmboaaDoor
open Go.RowKit Go.Shelf

/-- The place that a pawn goes over is the document's. -/
theorem eR_psI {Z : List Int} {t : Nat} {k e : Int} {f q : Nat} (hS : Std Z) (hf : f < 64) (hq : q < 64) (h : tgB Z t k e f q = true) : eR Z f q = psI Z t f q := by
  unfold eR psI
  by_cases h1 : (zg Z f).natAbs = 1
  · have hz := hS.2.1 f hf
    have hpw := hz.2.2 h1
    have hfw : pci t 8 = 8 ∨ pci t 8 = -8 := by unfold pci; split <;> simp
    by_cases hd : ((q : Int) - (f : Int)).natAbs = 16
    · have hdx : dX f q = 0 := by unfold dX; omega
      have hno : q ∉ rch Z (zg Z f) f := fun hm => by
        have hx : KX (zg Z f) := KX_of hz.1 hz.2.1 (fun e0 => by rw [e0] at h1; exact absurd h1 (by decide))
        have := (rch_iff Z hf hq hx).2 hm
        rw [not_atR_file h1 hdx] at this
        exact absurd this (by simp)
      unfold tgB at h
      simp only [Bool.or_eq_true, Bool.and_eq_true, decide_eq_true_eq, beq_iff_eq] at h
      rcases h with (h | h) | h
      · exact absurd h.1 hno
      · have h2 := h.2
        unfold ahB on1 on2 fw at h2
        simp only [Bool.and_eq_true, Bool.or_eq_true, beq_iff_eq] at h2
        have h3 : (q : Int) = (f : Int) + pci t 8 + pci t 8 := by
          rcases h2.2 with h3 | h3
          · rcases hfw with e | e <;> rw [e] at h3 <;> omega
          · rcases hfw with e | e <;> rw [e] at h3 ⊢ <;> omega
        rw [if_pos ⟨h1, hd⟩, if_pos ⟨h1, h3⟩]
        rcases hfw with e | e <;> rw [e] at h3 ⊢ <;> omega
      · omega
    · have h3 : ¬ (q : Int) = (f : Int) + pci t 8 + pci t 8 := by
        rcases hfw with e | e <;> rw [e] <;> omega
      rw [if_neg (fun hh => hd hh.2), if_neg (fun hh => h3 hh.2)]
  · rw [if_neg (fun hh => h1 hh.1), if_neg (fun hh => h1 hh.1)]

/-- What the document makes of a position by one of its moves. -/
theorem done_nx (a : Option Addr) (c : Nat) (p : Ps) (hM : MayP p) (m : Nat × Nat × Nat) (hm : m ∈ mvs p) (w : World) (hR : Rd w a 64 c p.Z) :
    Calls Tryd.prog 30 #[.agg (chP a c p), .agg (mvC m).toArray] w fun r w' => ∃ rb c', r = .returned (.agg (chP (some ⟨rb, 0, none⟩) c' (nxP p m))) ∧ Rd w' (some ⟨rb, 0, none⟩) 64 c' (nxP p m).Z ∧ w.heap.size ≤ rb ∧ Below w.heap.size w w' := by
  have hO := (mvs_ok hM hm).1
  have k16 : p.k < 16 := by have := hM.k15; omega
  have hn := inB_lt hO.inn
  have h1 := MoveDone_any a c p.Z p.t p.k p.e p.h p.f hM.st.pz hM.t1 k16 hM.h9 hM.f9.2 m.1 m.2.1 m.2.2 hO.f hO.q (by omega) (fun htk => by
    have hta := tk_at hM.t1 hM.st hM.pas hO.f hO.q hO.own hO.tg htk
    exact ⟨hta.2.2.1, bk_nat hM.t1 hM.pas hta.1⟩) w hR
  have hdn := dn_eq (n := m.2.2) (e := p.e) hM.st hM.cas hO.f hO.q hO.own hO.tg
  have hkr := kR_eq hM hO
  have her := eR_psI hM.st hO.f hO.q hO.tg
  rw [hdn, hkr, her] at h1
  refine h1.mono ?_
  rintro r w' ⟨rb, c', rfl, hw, hrb, h64, hmx, hb⟩
  exact ⟨rb, c', rfl, hw.rd h64 hmx, hrb, hb⟩

/-- A row of moves that can be read, cell by cell. -/
theorem Mr.at {w : World} {ad : Option Addr} {n cp : Nat} {L : List (Nat × Nat × Nat)} (h : Mr w (.slice ad n cp) L) : L.length = n ∧ n ≤ cp ∧ cp ≤ maxLen ∧ (0 < n → ∃ g, ad = some ⟨g, 0, none⟩ ∧ ∀ i m, L[i]? = some m → w.cell? ⟨g, i * 3, none⟩ = some (.int .i64 (m.1 : Nat)) ∧ w.cell? ⟨g, i * 3 + 1, none⟩ = some (.int .i64 (m.2.1 : Nat)) ∧ w.cell? ⟨g, i * 3 + 2, none⟩ = some (.int .i64 (m.2.2 : Nat))) := by
  obtain ⟨a, c, h1, h2, h3, h4⟩ := h.ex
  simp only [Value.slice.injEq] at h1
  obtain ⟨rfl, rfl, rfl⟩ := h1
  refine ⟨rfl, h2, h3, fun hp => ?_⟩
  obtain ⟨g, h5, h6⟩ := h4 hp
  refine ⟨g, h5, fun i m hm => ⟨?_, ?_, ?_⟩⟩
  · exact h6 (i * 3 + 0) _ ((flM_at L i m hm 0 (by omega)).trans rfl)
  · exact h6 (i * 3 + 1) _ ((flM_at L i m hm 1 (by omega)).trans rfl)
  · exact h6 (i * 3 + 2) _ ((flM_at L i m hm 2 (by omega)).trans rfl)

end Go.Proofs.YtdmlamnonbmboaaDoor

namespace Go.Proofs.YtdmlamnonbmboaaDoor
open Go.RowKit Go.Shelf

attribute [local irreducible] mvs nxP lsP cmP msP mtP
attribute [local go_sem] Oper.semAt_some wide_fn wide_fn0 wide_depth

theorem ckP_atL {p : Ps} (hM : MayP p) : ckP p = decide (atL p.Z (kf p.Z p.t) (1 - p.t) ≠ []) := by
  unfold ckP
  have ht := hM.t1
  have hb : 1 - p.t = 0 ∨ 1 - p.t = 1 := by omega
  rw [decide_eq_decide]
  exact not_congr (atk_nil hM.st.pz (kf_kg hM.st p.t).1 hb)

set_option maxRecDepth 100000 in
set_option maxHeartbeats 4000000 in
theorem mm_zero (a : Option Addr) (c : Nat) (p : Ps) (hM : MayP p) (hne : (mvs p).isEmpty = false) (w : World) (hR : Rd w a 64 c p.Z) :
    Calls Tryd.prog 29 #[.agg (chP a c p), .int .i64 1] w fun r w' => r = .returned (.bool (lsP 0 p)) ∧ Below w.heap.size w w' := by
  obtain ⟨w1, hw1⟩ : ∃ w1, w.alloc (.cells (chP a c p) 24) = w1 := ⟨_, rfl⟩
  obtain ⟨g, hg⟩ : ∃ g, w.heap.size = g := ⟨_, rfl⟩
  have B1 : Below w.heap.size w w1 := by rw [← hw1]; exact (Below.refl _ w).alloc (Nat.le_refl _) _
  have C1 : Ch w1 g a 64 c (p.t : Nat) (p.k : Nat) p.e (p.h : Nat) (p.f : Nat) := by rw [← hw1, ← hg]; exact Ch.new w a 64 c _ _ _ _ _
  have HMA := hide (MovesAll_any a c p hM w1 (hR.mono B1))
  have HE : Hid (lsP 0 p = false) := hide (by rw [lsP_zero]; unfold mtP; rw [hne, Bool.and_false])
  have HB1 := hide B1
  obtain ⟨XS, hXS⟩ : ∃ XS, mvs p = XS := ⟨_, rfl⟩
  rw [hXS] at HMA hne
  have hM0 : 0 < XS.length := by
    cases XS with
    | nil => exact absurd hne (by decide)
    | cons x r => exact Nat.succ_pos _
  have hXL : XS.length ≤ 16384 := by rw [← hXS]; exact mvs_len p
  clear B1 hR hM hXS hne
  go_enter Tryd.func29, Tryd.ntmps29
  go_upto_region 1 with fail
  try rw [hg]
  clear hw1 hg
  go_wp2_with (refine wpList_load_ch rfl (.tmp 2) rfl g rfl C1 ?_)
  refine HMA.out.mono ?_
  rintro r w2 ⟨ad, cp, rfl, hO, hb2⟩
  have HB2 := hide (HB1.out.trans (hb2.mono HB1.out.size))
  clear hO hb2 C1 HMA
  obtain ⟨M, hMl⟩ : ∃ M, XS.length = M := ⟨_, rfl⟩
  rw [hMl] at hM0 hXL ⊢
  have e0 : (((M : Nat) : Int) == 0) = false := by rw [beq_eq_false_iff_ne]; omega
  clear hMl
  go_wp2_with fail
  go_ret
  exact ⟨by rw [HE.out]; rfl, HB2.out⟩

set_option maxRecDepth 100000 in
set_option maxHeartbeats 4000000 in
theorem mm_none (n : Nat) (nv : Int) (a : Option Addr) (c : Nat) (p : Ps) (hM : MayP p) (hne : (mvs p).isEmpty = true) (w : World) (hR : Rd w a 64 c p.Z) :
    Calls Tryd.prog 29 #[.agg (chP a c p), .int .i64 nv] w fun r w' => r = .returned (.bool (lsP n p)) ∧ Below w.heap.size w w' := by
  obtain ⟨w1, hw1⟩ : ∃ w1, w.alloc (.cells (chP a c p) 24) = w1 := ⟨_, rfl⟩
  obtain ⟨g, hg⟩ : ∃ g, w.heap.size = g := ⟨_, rfl⟩
  have B1 : Below w.heap.size w w1 := by rw [← hw1]; exact (Below.refl _ w).alloc (Nat.le_refl _) _
  have C1 : Ch w1 g a 64 c (p.t : Nat) (p.k : Nat) p.e (p.h : Nat) (p.f : Nat) := by rw [← hw1, ← hg]; exact Ch.new w a 64 c _ _ _ _ _
  have HCH : Hid (∀ W, Below w1.heap.size w1 W → Ch W g a 64 c (p.t : Nat) (p.k : Nat) p.e (p.h : Nat) (p.f : Nat)) := hide (fun W hb => C1.below hb C1.lt)
  have HMA := hide (MovesAll_any a c p hM w1 (hR.mono B1))
  have HIC : Hid (∀ W, Below w1.heap.size w1 W → Calls Tryd.prog 26 #[.slice a 64 c, .int .i64 (p.t : Nat)] W fun r w' => r = .returned (.bool (ckP p)) ∧ Below W.heap.size W w') := hide (fun W hb => by
    have h := InCheckR_any a c p.Z p.t (kf p.Z p.t) hM.t1 (kf_kg hM.st p.t).fst hM.st.pz W ((hR.mono B1).mono hb)
    rw [← ckP_atL hM] at h
    exact h)
  have HE : Hid (lsP n p = ckP p) := hide (by
    cases n with
    | zero => rw [lsP_zero]; unfold mtP; rw [hne, Bool.and_true]
    | succ k => rw [lsP_succ, if_pos hne]; unfold mtP; rw [hne, Bool.and_true])
  have HB1 := hide B1
  have hl : (mvs p).length = 0 := by rw [List.isEmpty_iff] at hne; rw [hne]; rfl
  rw [hl] at HMA
  obtain ⟨cb, hcb⟩ : ∃ cb, ckP p = cb := ⟨_, rfl⟩
  rw [hcb] at HIC HE
  clear B1 hR hM hne hl hcb
  go_enter Tryd.func29, Tryd.ntmps29
  go_upto_region 1 with fail
  try rw [hg]
  clear hw1 hg
  go_wp2_with (refine wpList_load_ch rfl (.tmp 2) rfl g rfl C1 ?_)
  refine HMA.out.mono ?_
  rintro r w2 ⟨ad, cp, rfl, -, hb2⟩
  have HB2 : Hid (Below w1.heap.size w1 w2) := hide hb2
  obtain ⟨y0, y1, -, -, -, -⟩ := (HCH.out w2 hb2).cells
  clear hb2 C1 HMA
  go_wp2_with fail
  refine (HIC.out w2 HB2.out).mono ?_
  rintro r w3 ⟨rfl, hb3⟩
  have HB3 := hide (HB1.out.trans ((HB2.out.trans (hb3.mono HB2.out.size)).mono HB1.out.size))
  clear hb3
  go_wp2_with fail
  go_ret
  exact ⟨by rw [HE.out]; rfl, HB3.out⟩

set_option maxRecDepth 100000 in
set_option maxHeartbeats 8000000 in
theorem MatesIn_any (n : Nat) (ih : ∀ q, MayP q → ∀ a c w, Rd w a 64 c q.Z → Calls Tryd.prog 29 #[.agg (chP a c q), .int .i64 ((n + 1 : Nat) : Int)] w fun r w' => r = .returned (.bool (lsP n q)) ∧ Below w.heap.size w w')
    (a : Option Addr) (c : Nat) (p : Ps) (hM : MayP p) (w : World) (hR : Rd w a 64 c p.Z) :
    Calls Tryd.prog 58 #[.agg (chP a c p), .int .i64 ((n + 1 : Nat) : Int)] w fun r w' => r = .returned (.bool (cmP n p)) ∧ Below w.heap.size w w' := by
  obtain ⟨w1, hw1⟩ : ∃ w1, w.alloc (.cells (chP a c p) 24) = w1 := ⟨_, rfl⟩
  obtain ⟨g, hg⟩ : ∃ g, w.heap.size = g := ⟨_, rfl⟩
  have B1 : Below w.heap.size w w1 := by rw [← hw1]; exact (Below.refl _ w).alloc (Nat.le_refl _) _
  have C1 : Ch w1 g a 64 c (p.t : Nat) (p.k : Nat) p.e (p.h : Nat) (p.f : Nat) := by rw [← hw1, ← hg]; exact Ch.new w a 64 c _ _ _ _ _
  have hR1 := hR.mono B1
  have HMA := hide (MovesAll_any a c p hM w1 hR1)
  have HCH : Hid (∀ W, Below w1.heap.size w1 W → Ch W g a 64 c (p.t : Nat) (p.k : Nat) p.e (p.h : Nat) (p.f : Nat)) := hide (fun W hb => C1.below hb C1.lt)
  have HDN : Hid (∀ m ∈ mvs p, ∀ W, Below w1.heap.size w1 W → Calls Tryd.prog 30 #[.agg (chP a c p), .agg (mvC m).toArray] W fun r w' => ∃ rb c', r = .returned (.agg (chP (some ⟨rb, 0, none⟩) c' (nxP p m))) ∧ Rd w' (some ⟨rb, 0, none⟩) 64 c' (nxP p m).Z ∧ W.heap.size ≤ rb ∧ Below W.heap.size W w') := hide (fun m hm W hb => done_nx a c p hM m hm W (hR1.mono hb))
  have HIH := hide (fun m (hm : m ∈ mvs p) a' c' W (h : Rd W a' 64 c' (nxP p m).Z) => ih (nxP p m) (may_nx hM hm) a' c' W h)
  have HE : Hid (((mvs p).any fun m => lsP n (nxP p m)) = cmP n p) := hide (by unfold cmP; rfl)
  obtain ⟨nv, hnv⟩ : ∃ nv : Int, ((n + 1 : Nat) : Int) = nv := ⟨_, rfl⟩
  have HB1 := hide B1
  have HG := hide hg
  rw [hnv] at HIH ⊢
  obtain ⟨XS, hXS⟩ : ∃ XS, mvs p = XS := ⟨_, rfl⟩
  rw [hXS] at HMA HDN HIH HE
  obtain ⟨res, hres⟩ : ∃ res, cmP n p = res := ⟨_, rfl⟩
  rw [hres] at HE ⊢
  have hXL : XS.length ≤ 16384 := by rw [← hXS]; exact mvs_len p
  clear B1 hR hR1 hM ih hnv hXS hres
  go_enter Tryd.func58, Tryd.ntmps58
  go_upto_region 1 with fail
  try rw [hg]
  clear hw1 hg
  go_wp2_with (refine wpList_load_ch rfl (.tmp 2) rfl g rfl C1 ?_)
  refine HMA.out.mono ?_
  rintro r w2 ⟨ad, cp, rfl, hO, hb2⟩
  obtain ⟨hlen, hcp, hcm, hcells⟩ := (Mr.of_own hO).at
  obtain ⟨M, hMl⟩ : ∃ M, XS.length = M := ⟨_, rfl⟩
  rw [hMl] at hXL hcp hcells
  have HML := hide hMl
  have HCL := hide hcells
  have HB2 := hide hb2
  unfold maxLen at hcm
  try rw [hMl]
  clear hO hb2 hcells hlen hMl C1 HMA
  go_wp2_with fail
  go_loopw [6] (fun v wr => ∃ i : Nat, v = .int .i64 i ∧ i ≤ M ∧ Hid ((XS.take i).any (fun m => lsP n (nxP p m)) = false) ∧ Hid (Below w2.heap.size w2 wr)) (fun v _ => M - (intOf v).toNat)
  case atStart => exact ⟨0, rfl, by omega, hide rfl, hide (Below.refl _ _)⟩
  case round =>
    obtain ⟨i, rfl, hi, hsv, hb⟩ := hrel
    by_cases hlt : i < M
    · have hlt' : (i : Int) < (M : Int) := by omega
      obtain ⟨m, hm⟩ : ∃ m, XS[i]? = some m := ⟨XS[i]'(by rw [HML.out]; exact hlt), List.getElem?_eq_getElem _⟩
      obtain ⟨mb, rfl, hc⟩ := HCL.out (by omega)
      have hmm : m ∈ XS := List.mem_of_getElem? hm
      have HDm := hide (HDN.out m hmm)
      have HIm := hide (HIH.out m hmm)
      have HNX : Hid ((XS.take (i + 1)).any (fun m => lsP n (nxP p m)) = lsP n (nxP p m)) := hide (by rw [List.take_add_one, hm, List.any_append, hsv.out]; simp)
      have HHT : Hid (lsP n (nxP p m) = true → res = true) := hide (fun h => by rw [← HE.out, List.any_eq_true]; exact ⟨m, hmm, h⟩)
      obtain ⟨cr, hcr⟩ : ∃ cr, lsP n (nxP p m) = cr := ⟨_, rfl⟩
      rw [hcr] at HIm HNX HHT
      have HCM : Hid (∀ W, Below w2.heap.size w2 W → W.cell? ⟨mb, i * 3, none⟩ = some (.int .i64 (m.1 : Nat)) ∧ W.cell? ⟨mb, i * 3 + 1, none⟩ = some (.int .i64 (m.2.1 : Nat)) ∧ W.cell? ⟨mb, i * 3 + 2, none⟩ = some (.int .i64 (m.2.2 : Nat))) := hide (fun W hbb => by
        obtain ⟨z1, z2, z3⟩ := hc i m hm
        exact ⟨(hbb.cell (p := ⟨mb, i * 3, none⟩) (World.block_lt_of_cell? w2 _ z1)).trans z1, (hbb.cell (p := ⟨mb, i * 3 + 1, none⟩) (World.block_lt_of_cell? w2 _ z2)).trans z2, (hbb.cell (p := ⟨mb, i * 3 + 2, none⟩) (World.block_lt_of_cell? w2 _ z3)).trans z3⟩)
      have HBX : Hid (∀ W, Below w2.heap.size w2 W → Below w1.heap.size w1 W) := hide (fun W hW => HB2.out.trans (hW.mono HB2.out.size))
      clear hcr hmm hm hc hsv
      go_upto_region 5 with fail
      refine wp_region_held (S := fun W5 => Below w2.heap.size w2 W5) (by kernel_rfl) ?_
      change wpAnyH _ _ _ _ _ _ _ _ (World.drew _)
      have SW : (fun W5 => Below w2.heap.size w2 W5) wr.drew := hb.out.trans (drewN_below _ _ 1)
      generalize wr.drew = wd at *
      refine wpAnyH_take (i := 0) (v := .agg (chP a c p)) rfl (by kernel_rfl) (by kernel_rfl) (by kernel_rfl) (fun _ _ _ h => h) (yieldsIf_load_mid (by rfl) 24 _ rfl g 0 (by rfl) [.slice a 64 c, .int .i64 (p.t : Nat), .int .i64 (p.k : Nat), .int .i64 p.e, .int .i64 (p.h : Nat), .int .i64 (p.f : Nat)] _ (fun W hW => (show Vb W g 24 [.slice a 64 c, .int .i64 (p.t : Nat), .int .i64 (p.k : Nat), .int .i64 p.e, .int .i64 (p.h : Nat), .int .i64 (p.f : Nat)] from HCH.out W (HBX.out W hW)).range) Tryd.underlying24 rfl size24) SW ?_
      go_simp
      refine wpAnyH_take (i := 1) (v := .slice (some ⟨mb, 0, none⟩) M cp) rfl (by kernel_rfl) (by kernel_rfl) (by kernel_rfl) (fun _ _ _ h => h) (Or.inl ⟨by rfl, ?_⟩) SW ?_
      · intro W5 hW5
        go_simp <;> first | done | rfl | (rw [IntKind.wrap_i64]; omega) | omega
      go_simp
      refine wpAnyH_take (i := 2) (v := .int .i64 (i : Nat)) rfl (by kernel_rfl) (by kernel_rfl) (by kernel_rfl) (fun _ _ _ h => h) (Or.inl ⟨by rfl, ?_⟩) SW ?_
      · intro W5 hW5
        go_simp <;> first | done | rfl | (rw [IntKind.wrap_i64]; omega) | omega
      go_simp
      refine wpAnyH_take (i := 3) (v := .pointer (some ⟨mb, i * 3, none⟩)) rfl (by kernel_rfl) (by kernel_rfl) (by kernel_rfl) (fun _ _ _ h => h) (Or.inl ⟨by rfl, ?_⟩) SW ?_
      · intro W5 hW5
        go_simp <;> first | done | rfl | (rw [IntKind.wrap_i64]; omega) | omega
      go_simp
      refine wpAnyH_take (i := 4) (v := .agg (mvC m).toArray) rfl (by kernel_rfl) (by kernel_rfl) (by kernel_rfl) (fun _ _ _ h => h) (Or.inl ⟨by rfl, ?_⟩) SW ?_
      · intro W5 hW5
        obtain ⟨y0, y1, y2⟩ := HCM.out W5 hW5
        go_simp <;> first | done | rfl | (rw [IntKind.wrap_i64]; omega) | omega
      go_simp
      refine wpAnyH_take (i := 6) (v := .int .i64 nv) rfl (by kernel_rfl) (by kernel_rfl) (by kernel_rfl) (fun _ _ _ h => h) (Or.inl ⟨by rfl, ?_⟩) SW ?_
      · intro W5 hW5
        go_simp <;> first | done | rfl | (rw [IntKind.wrap_i64]; omega) | omega
      go_simp
      refine wpAnyH_ready (rs := [5]) (by kernel_rfl) (by simp) ?_
      refine AllReadyH.cons rfl (fun K1 hK1 => ?_) AllReadyH.nil
      go_simp
      refine (HDm.out _ (HBX.out _ SW)).mono ?_
      rintro r w9 ⟨rb, c', rfl, hrd, -, hb9⟩
      have SWb := SW.trans (hb9.mono SW.size)
      refine hK1.out _ _ SWb (fun SW => ?_)
      clear hK1 K1 SWb
      have HRD := hide hrd
      clear hrd hb9
      go_simp
      refine wpAnyH_ready (rs := [7]) (by kernel_rfl) (by simp) ?_
      refine AllReadyH.cons rfl (fun K1 hK1 => ?_) AllReadyH.nil
      go_simp
      refine (HIm.out _ _ _ HRD.out).mono ?_
      rintro r w9 ⟨rfl, hb9⟩
      have SWb := SW.trans (hb9.mono SW.size)
      refine hK1.out _ _ SWb (fun SW => ?_)
      clear hK1 K1 SWb
      clear hb9
      go_simp
      refine wpAnyH_done (by kernel_rfl) ?_ _
      have HSW : Hid (Below w2.heap.size w2 _) := hide SW
      clear SW
      cases cr with
      | true =>
        have HR := hide (HHT.out rfl)
        go_wp2_with fail
        go_ret
        exact ⟨by rw [HR.out]; rfl, HB1.out.trans ((HBX.out _ HSW.out).mono HB1.out.size)⟩
      | false =>
        go_wp2_with fail
        exact ⟨⟨i + 1, by go_num, by omega, HNX, HSW⟩, by simp [intOf]; omega⟩
    · obtain rfl : i = M := by omega
      have HR : Hid (res = false) := hide (by rw [← HE.out]; have := hsv.out; rwa [← HML.out, List.take_length] at this)
      have HBX : Hid (Below w.heap.size w wr) := hide (HB1.out.trans ((HB2.out.trans (hb.out.mono HB2.out.size)).mono HB1.out.size))
      go_wp2_with fail
      go_ret
      exact ⟨by rw [HR.out]; rfl, HBX.out⟩

set_option maxRecDepth 100000 in
set_option maxHeartbeats 8000000 in
theorem mm_some (n : Nat) (hn : n ≤ 9) (ih : ∀ q, MayP q → ∀ a c w, Rd w a 64 c q.Z → Calls Tryd.prog 58 #[.agg (chP a c q), .int .i64 ((n + 1 : Nat) : Int)] w fun r w' => r = .returned (.bool (cmP n q)) ∧ Below w.heap.size w w')
    (a : Option Addr) (c : Nat) (p : Ps) (hM : MayP p) (hne : (mvs p).isEmpty = false) (w : World) (hR : Rd w a 64 c p.Z) :
    Calls Tryd.prog 29 #[.agg (chP a c p), .int .i64 ((n + 2 : Nat) : Int)] w fun r w' => r = .returned (.bool (lsP (n + 1) p)) ∧ Below w.heap.size w w' := by
  obtain ⟨w1, hw1⟩ : ∃ w1, w.alloc (.cells (chP a c p) 24) = w1 := ⟨_, rfl⟩
  obtain ⟨g, hg⟩ : ∃ g, w.heap.size = g := ⟨_, rfl⟩
  have B1 : Below w.heap.size w w1 := by rw [← hw1]; exact (Below.refl _ w).alloc (Nat.le_refl _) _
  have C1 : Ch w1 g a 64 c (p.t : Nat) (p.k : Nat) p.e (p.h : Nat) (p.f : Nat) := by rw [← hw1, ← hg]; exact Ch.new w a 64 c _ _ _ _ _
  have hR1 := hR.mono B1
  have HMA := hide (MovesAll_any a c p hM w1 hR1)
  have HCH : Hid (∀ W, Below w1.heap.size w1 W → Ch W g a 64 c (p.t : Nat) (p.k : Nat) p.e (p.h : Nat) (p.f : Nat)) := hide (fun W hb => C1.below hb C1.lt)
  have HDN : Hid (∀ m ∈ mvs p, ∀ W, Below w1.heap.size w1 W → Calls Tryd.prog 30 #[.agg (chP a c p), .agg (mvC m).toArray] W fun r w' => ∃ rb c', r = .returned (.agg (chP (some ⟨rb, 0, none⟩) c' (nxP p m))) ∧ Rd w' (some ⟨rb, 0, none⟩) 64 c' (nxP p m).Z ∧ W.heap.size ≤ rb ∧ Below W.heap.size W w') := hide (fun m hm W hb => done_nx a c p hM m hm W (hR1.mono hb))
  have HIH := hide (fun m (hm : m ∈ mvs p) a' c' W (h : Rd W a' 64 c' (nxP p m).Z) => ih (nxP p m) (may_nx hM hm) a' c' W h)
  have HE : Hid (((mvs p).all fun m => cmP n (nxP p m)) = lsP (n + 1) p) := hide (by rw [lsP_succ, hne]; rfl)
  obtain ⟨nv, hnv⟩ : ∃ nv : Int, ((n + 2 : Nat) : Int) = nv := ⟨_, rfl⟩
  have e1 : (nv == 1) = false := by rw [← hnv, beq_eq_false_iff_ne]; omega
  have HEM : Hid (IntKind.i64.wrap (nv - 1) = ((n + 1 : Nat) : Int)) := hide (by rw [← hnv, IntKind.wrap_i64]; omega)
  have HB1 := hide B1
  have HG := hide hg
  rw [hnv]
  obtain ⟨XS, hXS⟩ : ∃ XS, mvs p = XS := ⟨_, rfl⟩
  rw [hXS] at HMA HDN HIH HE hne
  obtain ⟨res, hres⟩ : ∃ res, lsP (n + 1) p = res := ⟨_, rfl⟩
  rw [hres] at HE ⊢
  have hXL : XS.length ≤ 16384 := by rw [← hXS]; exact mvs_len p
  clear B1 hR hR1 hM ih hnv hXS hres hn
  go_enter Tryd.func29, Tryd.ntmps29
  go_upto_region 1 with fail
  try rw [hg]
  clear hw1 hg
  go_wp2_with (refine wpList_load_ch rfl (.tmp 2) rfl g rfl C1 ?_)
  refine HMA.out.mono ?_
  rintro r w2 ⟨ad, cp, rfl, hO, hb2⟩
  obtain ⟨hlen, hcp, hcm, hcells⟩ := (Mr.of_own hO).at
  obtain ⟨M, hMl⟩ : ∃ M, XS.length = M := ⟨_, rfl⟩
  rw [hMl] at hXL hcp hcells
  have HML := hide hMl
  have HCL := hide hcells
  have HB2 := hide hb2
  unfold maxLen at hcm
  try rw [hMl]
  have hM0 : 0 < M := by rw [← hMl]; cases XS with
    | nil => exact absurd hne (by decide)
    | cons x r => exact Nat.succ_pos _
  have e0 : (((M : Nat) : Int) == 0) = false := by rw [beq_eq_false_iff_ne]; omega
  clear hO hb2 hcells hlen hMl C1 HMA hne hM0
  go_wp2_with fail
  go_loopw [6] (fun v wr => ∃ i : Nat, v = .int .i64 i ∧ i ≤ M ∧ Hid ((XS.take i).all (fun m => cmP n (nxP p m)) = true) ∧ Hid (Below w2.heap.size w2 wr)) (fun v _ => M - (intOf v).toNat)
  case atStart => exact ⟨0, rfl, by omega, hide rfl, hide (Below.refl _ _)⟩
  case round =>
    obtain ⟨i, rfl, hi, hsv, hb⟩ := hrel
    by_cases hlt : i < M
    · have hlt' : (i : Int) < (M : Int) := by omega
      obtain ⟨m, hm⟩ : ∃ m, XS[i]? = some m := ⟨XS[i]'(by rw [HML.out]; exact hlt), List.getElem?_eq_getElem _⟩
      obtain ⟨mb, rfl, hc⟩ := HCL.out (by omega)
      have hmm : m ∈ XS := List.mem_of_getElem? hm
      have HDm := hide (HDN.out m hmm)
      have HIm := hide (HIH.out m hmm)
      have HNX : Hid ((XS.take (i + 1)).all (fun m => cmP n (nxP p m)) = cmP n (nxP p m)) := hide (by rw [List.take_add_one, hm, List.all_append, hsv.out]; simp)
      have HHT : Hid (cmP n (nxP p m) = false → res = false) := hide (fun h => by rw [← HE.out, List.all_eq_false]; exact ⟨m, hmm, by rw [h]; simp⟩)
      obtain ⟨cr, hcr⟩ : ∃ cr, cmP n (nxP p m) = cr := ⟨_, rfl⟩
      rw [hcr] at HIm HNX HHT
      have HCM : Hid (∀ W, Below w2.heap.size w2 W → W.cell? ⟨mb, i * 3, none⟩ = some (.int .i64 (m.1 : Nat)) ∧ W.cell? ⟨mb, i * 3 + 1, none⟩ = some (.int .i64 (m.2.1 : Nat)) ∧ W.cell? ⟨mb, i * 3 + 2, none⟩ = some (.int .i64 (m.2.2 : Nat))) := hide (fun W hbb => by
        obtain ⟨z1, z2, z3⟩ := hc i m hm
        exact ⟨(hbb.cell (p := ⟨mb, i * 3, none⟩) (World.block_lt_of_cell? w2 _ z1)).trans z1, (hbb.cell (p := ⟨mb, i * 3 + 1, none⟩) (World.block_lt_of_cell? w2 _ z2)).trans z2, (hbb.cell (p := ⟨mb, i * 3 + 2, none⟩) (World.block_lt_of_cell? w2 _ z3)).trans z3⟩)
      have HBX : Hid (∀ W, Below w2.heap.size w2 W → Below w1.heap.size w1 W) := hide (fun W hW => HB2.out.trans (hW.mono HB2.out.size))
      clear hcr hmm hm hc hsv
      go_upto_region 9 with fail
      refine wp_region_held (S := fun W5 => Below w2.heap.size w2 W5) (by kernel_rfl) ?_
      change wpAnyH _ _ _ _ _ _ _ _ (World.drew _)
      have SW : (fun W5 => Below w2.heap.size w2 W5) wr.drew := hb.out.trans (drewN_below _ _ 1)
      generalize wr.drew = wd at *
      refine wpAnyH_take (i := 0) (v := .agg (chP a c p)) rfl (by kernel_rfl) (by kernel_rfl) (by kernel_rfl) (fun _ _ _ h => h) (yieldsIf_load_mid (by rfl) 24 _ rfl g 0 (by rfl) [.slice a 64 c, .int .i64 (p.t : Nat), .int .i64 (p.k : Nat), .int .i64 p.e, .int .i64 (p.h : Nat), .int .i64 (p.f : Nat)] _ (fun W hW => (show Vb W g 24 [.slice a 64 c, .int .i64 (p.t : Nat), .int .i64 (p.k : Nat), .int .i64 p.e, .int .i64 (p.h : Nat), .int .i64 (p.f : Nat)] from HCH.out W (HBX.out W hW)).range) Tryd.underlying24 rfl size24) SW ?_
      go_simp
      refine wpAnyH_take (i := 1) (v := .slice (some ⟨mb, 0, none⟩) M cp) rfl (by kernel_rfl) (by kernel_rfl) (by kernel_rfl) (fun _ _ _ h => h) (Or.inl ⟨by rfl, ?_⟩) SW ?_
      · intro W5 hW5
        go_simp <;> first | done | rfl | (rw [IntKind.wrap_i64]; omega) | omega
      go_simp
      refine wpAnyH_take (i := 2) (v := .int .i64 (i : Nat)) rfl (by kernel_rfl) (by kernel_rfl) (by kernel_rfl) (fun _ _ _ h => h) (Or.inl ⟨by rfl, ?_⟩) SW ?_
      · intro W5 hW5
        go_simp <;> first | done | rfl | (rw [IntKind.wrap_i64]; omega) | omega
      go_simp
      refine wpAnyH_take (i := 3) (v := .pointer (some ⟨mb, i * 3, none⟩)) rfl (by kernel_rfl) (by kernel_rfl) (by kernel_rfl) (fun _ _ _ h => h) (Or.inl ⟨by rfl, ?_⟩) SW ?_
      · intro W5 hW5
        go_simp <;> first | done | rfl | (rw [IntKind.wrap_i64]; omega) | omega
      go_simp
      refine wpAnyH_take (i := 4) (v := .agg (mvC m).toArray) rfl (by kernel_rfl) (by kernel_rfl) (by kernel_rfl) (fun _ _ _ h => h) (Or.inl ⟨by rfl, ?_⟩) SW ?_
      · intro W5 hW5
        obtain ⟨y0, y1, y2⟩ := HCM.out W5 hW5
        go_simp <;> first | done | rfl | (rw [IntKind.wrap_i64]; omega) | omega
      go_simp
      refine wpAnyH_take (i := 6) (v := .int .i64 nv) rfl (by kernel_rfl) (by kernel_rfl) (by kernel_rfl) (fun _ _ _ h => h) (Or.inl ⟨by rfl, ?_⟩) SW ?_
      · intro W5 hW5
        go_simp <;> first | done | rfl | (rw [IntKind.wrap_i64]; omega) | omega
      go_simp
      refine wpAnyH_take (i := 7) (v := .int .i64 ((n + 1 : Nat) : Int)) rfl (by kernel_rfl) (by kernel_rfl) (by kernel_rfl) (fun _ _ _ h => h) (Or.inl ⟨by rfl, ?_⟩) SW ?_
      · intro W5 hW5
        have y0 := HEM.out
        go_simp <;> first | done | rfl | (rw [IntKind.wrap_i64]; omega) | omega
      go_simp
      refine wpAnyH_ready (rs := [5]) (by kernel_rfl) (by simp) ?_
      refine AllReadyH.cons rfl (fun K1 hK1 => ?_) AllReadyH.nil
      go_simp
      refine (HDm.out _ (HBX.out _ SW)).mono ?_
      rintro r w9 ⟨rb, c', rfl, hrd, -, hb9⟩
      have SWb := SW.trans (hb9.mono SW.size)
      refine hK1.out _ _ SWb (fun SW => ?_)
      clear hK1 K1 SWb
      have HRD := hide hrd
      clear hrd hb9
      go_simp
      refine wpAnyH_ready (rs := [8]) (by kernel_rfl) (by simp) ?_
      refine AllReadyH.cons rfl (fun K1 hK1 => ?_) AllReadyH.nil
      go_simp
      refine (HIm.out _ _ _ HRD.out).mono ?_
      rintro r w9 ⟨rfl, hb9⟩
      have SWb := SW.trans (hb9.mono SW.size)
      refine hK1.out _ _ SWb (fun SW => ?_)
      clear hK1 K1 SWb
      clear hb9
      go_simp
      refine wpAnyH_take (i := 9) (v := .bool (!cr)) rfl (by kernel_rfl) (by kernel_rfl) (by kernel_rfl) (fun _ _ _ h => h) (Or.inl ⟨by rfl, ?_⟩) SW ?_
      · intro W5 hW5
        go_simp <;> first | done | rfl | (rw [IntKind.wrap_i64]; omega) | omega
      go_simp
      refine wpAnyH_done (by kernel_rfl) ?_ _
      have HSW : Hid (Below w2.heap.size w2 _) := hide SW
      clear SW
      cases cr with
      | true =>
        go_wp2_with fail
        exact ⟨⟨i + 1, by go_num, by omega, HNX, HSW⟩, by simp [intOf]; omega⟩
      | false =>
        have HR := hide (HHT.out rfl)
        go_wp2_with fail
        go_ret
        exact ⟨by rw [HR.out]; rfl, HB1.out.trans ((HBX.out _ HSW.out).mono HB1.out.size)⟩
    · obtain rfl : i = M := by omega
      have HR : Hid (res = true) := hide (by rw [← HE.out]; have := hsv.out; rwa [← HML.out, List.take_length] at this)
      have HBX : Hid (Below w.heap.size w wr) := hide (HB1.out.trans ((HB2.out.trans (hb.out.mono HB2.out.size)).mono HB1.out.size))
      go_wp2_with fail
      go_ret
      exact ⟨by rw [HR.out]; rfl, HBX.out⟩

theorem movesMates_any (n : Nat) (hn : n ≤ 9) : ∀ p, MayP p → ∀ a c w, Rd w a 64 c p.Z → Calls Tryd.prog 29 #[.agg (chP a c p), .int .i64 ((n + 1 : Nat) : Int)] w fun r w' => r = .returned (.bool (lsP n p)) ∧ Below w.heap.size w w' := by
  induction n with
  | zero =>
    intro p hM a c w hR
    cases he : (mvs p).isEmpty with
    | true => exact mm_none 0 _ a c p hM he w hR
    | false => exact mm_zero a c p hM he w hR
  | succ n ih =>
    have h := ih (by omega)
    intro p hM a c w hR
    cases he : (mvs p).isEmpty with
    | true => exact mm_none (n + 1) _ a c p hM he w hR
    | false => exact mm_some n (by omega) (fun q hq a' c' w' hR' => MatesIn_any n h a' c' q hq w' hR') a c p hM he w hR


end Go.Proofs.YtdmlamnonbmboaaDoor
