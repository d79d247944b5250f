/-
  Chess: rows of moves counted as the document counts them, walked. No conditions beyond those that each theorem bears.
-/
import Derived.Test.YtbhlafdfpoacjaaDoorQ45
namespace Go.Proofs.YtbhlafdfpoacjaaDoor
open Go.RowKit Go.Shelf

/-- The place that a pawn goes over is the document's. -/
theorem eR_psI {Z : List Int} {t : Nat} {k e : Int} {f q : Nat} (hS : Std Z) (hf : f < 64) (hq : q < 64) (h : tgB Z t k e f q = true) : eR Z f q = psI Z t f q := by
  unfold eR psI
  by_cases h1 : (zg Z f).natAbs = 1
  · have hz := hS.2.1 f hf
    have hpw := hz.2.2 h1
    have hfw : pci t 8 = 8 ∨ pci t 8 = -8 := by unfold pci; split <;> simp
    by_cases hd : ((q : Int) - (f : Int)).natAbs = 16
    · have hdx : dX f q = 0 := by unfold dX; omega
      have hno : q ∉ rch Z (zg Z f) f := fun hm => by
        have hx : KX (zg Z f) := KX_of hz.1 hz.2.1 (fun e0 => by rw [e0] at h1; exact absurd h1 (by decide))
        have := (rch_iff Z hf hq hx).2 hm
        rw [not_atR_file h1 hdx] at this
        exact absurd this (by simp)
      unfold tgB at h
      simp only [Bool.or_eq_true, Bool.and_eq_true, decide_eq_true_eq, beq_iff_eq] at h
      rcases h with (h | h) | h
      · exact absurd h.1 hno
      · have h2 := h.2
        unfold ahB on1 on2 fw at h2
        simp only [Bool.and_eq_true, Bool.or_eq_true, beq_iff_eq] at h2
        have h3 : (q : Int) = (f : Int) + pci t 8 + pci t 8 := by
          rcases h2.2 with h3 | h3
          · rcases hfw with e | e <;> rw [e] at h3 <;> omega
          · rcases hfw with e | e <;> rw [e] at h3 ⊢ <;> omega
        rw [if_pos ⟨h1, hd⟩, if_pos ⟨h1, h3⟩]
        rcases hfw with e | e <;> rw [e] at h3 ⊢ <;> omega
      · omega
    · have h3 : ¬ (q : Int) = (f : Int) + pci t 8 + pci t 8 := by
        rcases hfw with e | e <;> rw [e] <;> omega
      rw [if_neg (fun hh => hd hh.2), if_neg (fun hh => h3 hh.2)]
  · rw [if_neg (fun hh => h1 hh.1), if_neg (fun hh => h1 hh.1)]

/-- What the document makes of a position by one of its moves. -/
theorem done_nx (a : Option Addr) (c : Nat) (p : Ps) (hM : MayP p) (m : Nat × Nat × Nat) (hm : m ∈ mvs p) (w : World) (hR : Rd w a 64 c p.Z) :
    Calls Tryd.prog 17 #[.agg (chP a c p), .agg (mvC m).toArray] w fun r w' => ∃ rb c', r = .returned (.agg (chP (some ⟨rb, 0, none⟩) c' (nxP p m))) ∧ Rd w' (some ⟨rb, 0, none⟩) 64 c' (nxP p m).Z ∧ w.heap.size ≤ rb ∧ Below w.heap.size w w' := by
  have hO := (mvs_ok hM hm).1
  have k16 : p.k < 16 := by have := hM.k15; omega
  have hn := inB_lt hO.inn
  have h1 := MoveDone_any a c p.Z p.t p.k p.e p.h p.f hM.st.pz hM.t1 k16 hM.h9 hM.f9.2 m.1 m.2.1 m.2.2 hO.f hO.q (by omega) (fun htk => by
    have hta := tk_at hM.t1 hM.st hM.pas hO.f hO.q hO.own hO.tg htk
    exact ⟨hta.2.2.1, bk_nat hM.t1 hM.pas hta.1⟩) w hR
  have hdn := dn_eq (n := m.2.2) (e := p.e) hM.st hM.cas hO.f hO.q hO.own hO.tg
  have hkr := kR_eq hM hO
  have her := eR_psI hM.st hO.f hO.q hO.tg
  rw [hdn, hkr, her] at h1
  refine h1.mono ?_
  rintro r w' ⟨rb, c', rfl, hw, hrb, h64, hmx, hb⟩
  exact ⟨rb, c', rfl, hw.rd h64 hmx, hrb, hb⟩

/-- A row of moves that can be read, cell by cell. -/
theorem Mr.at {w : World} {ad : Option Addr} {n cp : Nat} {L : List (Nat × Nat × Nat)} (h : Mr w (.slice ad n cp) L) : L.length = n ∧ n ≤ cp ∧ cp ≤ maxLen ∧ (0 < n → ∃ g, ad = some ⟨g, 0, none⟩ ∧ ∀ i m, L[i]? = some m → w.cell? ⟨g, i * 3, none⟩ = some (.int .i64 (m.1 : Nat)) ∧ w.cell? ⟨g, i * 3 + 1, none⟩ = some (.int .i64 (m.2.1 : Nat)) ∧ w.cell? ⟨g, i * 3 + 2, none⟩ = some (.int .i64 (m.2.2 : Nat))) := by
  obtain ⟨a, c, h1, h2, h3, h4⟩ := h.ex
  simp only [Value.slice.injEq] at h1
  obtain ⟨rfl, rfl, rfl⟩ := h1
  refine ⟨rfl, h2, h3, fun hp => ?_⟩
  obtain ⟨g, h5, h6⟩ := h4 hp
  refine ⟨g, h5, fun i m hm => ⟨?_, ?_, ?_⟩⟩
  · exact h6 (i * 3 + 0) _ ((flM_at L i m hm 0 (by omega)).trans rfl)
  · exact h6 (i * 3 + 1) _ ((flM_at L i m hm 1 (by omega)).trans rfl)
  · exact h6 (i * 3 + 2) _ ((flM_at L i m hm 2 (by omega)).trans rfl)

attribute [local irreducible] mvs cnP nxP

set_option maxRecDepth 100000 in
set_option maxHeartbeats 2000000 in
theorem CountRows_zero (a : Option Addr) (c : Nat) (p : Ps) (w : World) : Calls Tryd.prog 19 #[.agg (chP a c p), .int .i64 0] w fun r w' => r = .returned (.int .i64 (cnP 0 p)) ∧ Below w.heap.size w w' := by
  have B1 : Below w.heap.size w (w.alloc (.cells (chP a c p) 24)) := (Below.refl _ w).alloc (Nat.le_refl _) _
  have HB1 := hide B1
  have HE := hide (cnP_zero p)
  clear B1
  go_enter Tryd.func19, Tryd.ntmps19
  go_upto_region 1 with fail
  generalize w.alloc (.cells (chP a c p) 24) = w1 at *
  go_wp2_with fail
  go_ret
  exact ⟨by rw [HE.out]; rfl, HB1.out⟩

section
variable (a : Option Addr) (c : Nat) (p : Ps) (hM : MayP p) (w : World) (hR : Rd w a 64 c p.Z)
include hM hR
set_option maxRecDepth 100000 in
set_option maxHeartbeats 4000000 in
theorem CountRows_one : Calls Tryd.prog 19 #[.agg (chP a c p), .int .i64 1] w fun r w' => r = .returned (.int .i64 (cnP 1 p)) ∧ Below w.heap.size w w' := by
  obtain ⟨w1, hw1⟩ : ∃ w1, w.alloc (.cells (chP a c p) 24) = w1 := ⟨_, rfl⟩
  have B1 : Below w.heap.size w w1 := by rw [← hw1]; exact (Below.refl _ w).alloc (Nat.le_refl _) _
  have C1 : Ch w1 w.heap.size a 64 c (p.t : Nat) (p.k : Nat) p.e (p.h : Nat) (p.f : Nat) := by rw [← hw1]; exact Ch.new w a 64 c _ _ _ _ _
  have HMA := hide (MovesAll_any a c p hM w1 (hR.mono B1))
  have HE := hide (cnP_one p)
  have HB1 := hide B1
  clear B1 hR hM
  go_enter Tryd.func19, Tryd.ntmps19
  go_upto_region 1 with fail
  clear hw1
  go_wp2_with (refine wpList_load_ch rfl (.tmp 2) rfl w.heap.size rfl C1 ?_)
  refine HMA.out.mono ?_
  rintro r w2 ⟨ad, cp, rfl, -, hb2⟩
  have HB2 := hide (HB1.out.trans (hb2.mono HB1.out.size))
  clear hb2
  generalize (mvs p).length = n at *
  go_wp2_with fail
  go_ret
  exact ⟨by rw [HE.out]; rfl, HB2.out⟩

set_option maxRecDepth 100000 in
set_option maxHeartbeats 8000000 in
theorem CountRows_succ (n : Nat) (h1 : 1 ≤ n) (h3 : n ≤ 2) (ih : ∀ q, MayP q → ∀ a c w, Rd w a 64 c q.Z → Calls Tryd.prog 19 #[.agg (chP a c q), .int .i64 (n : Nat)] w fun r w' => r = .returned (.int .i64 (cnP n q)) ∧ Below w.heap.size w w') :
    Calls Tryd.prog 19 #[.agg (chP a c p), .int .i64 ((n + 1 : Nat) : Int)] w fun r w' => r = .returned (.int .i64 (cnP (n + 1) p)) ∧ Below w.heap.size w w' := by
  obtain ⟨w1, hw1⟩ : ∃ w1, w.alloc (.cells (chP a c p) 24) = w1 := ⟨_, rfl⟩
  obtain ⟨g, hg⟩ : ∃ g, w.heap.size = g := ⟨_, rfl⟩
  have B1 : Below w.heap.size w w1 := by rw [← hw1]; exact (Below.refl _ w).alloc (Nat.le_refl _) _
  have C1 : Ch w1 g a 64 c (p.t : Nat) (p.k : Nat) p.e (p.h : Nat) (p.f : Nat) := by rw [← hw1, ← hg]; exact Ch.new w a 64 c _ _ _ _ _
  have hR1 := hR.mono B1
  have HMA := hide (MovesAll_any a c p hM w1 hR1)
  have HCH : Hid (∀ W, Below w1.heap.size w1 W → Ch W g a 64 c (p.t : Nat) (p.k : Nat) p.e (p.h : Nat) (p.f : Nat)) := hide (fun W hb => C1.below hb C1.lt)
  have HDN : Hid (∀ m ∈ mvs p, ∀ W, Below w1.heap.size w1 W → Calls Tryd.prog 17 #[.agg (chP a c p), .agg (mvC m).toArray] W fun r w' => ∃ rb c', r = .returned (.agg (chP (some ⟨rb, 0, none⟩) c' (nxP p m))) ∧ Rd w' (some ⟨rb, 0, none⟩) 64 c' (nxP p m).Z ∧ W.heap.size ≤ rb ∧ Below W.heap.size W w') := hide (fun m hm W hb => done_nx a c p hM m hm W (hR1.mono hb))
  have HIH : Hid (∀ m ∈ mvs p, ∀ a c W, Rd W a 64 c (nxP p m).Z → Calls Tryd.prog 19 #[.agg (chP a c (nxP p m)), .int .i64 (n : Nat)] W fun r w' => r = .returned (.int .i64 (cnP n (nxP p m))) ∧ Below W.heap.size W w') := hide (fun m hm a c W hR => ih _ (may_nx hM hm) a c W hR)
  have HE : Hid ((mvs p).foldl (fun s m => IntKind.i64.wrap (s + cnP n (nxP p m))) 0 = cnP (n + 1) p) := hide (cnP_succ n p).symm
  obtain ⟨nv, hnv⟩ : ∃ nv : Int, ((n + 1 : Nat) : Int) = nv := ⟨_, rfl⟩
  have e0 : (nv == 0) = false := by rw [← hnv, beq_eq_false_iff_ne]; omega
  have e1 : (nv == 1) = false := by rw [← hnv, beq_eq_false_iff_ne]; omega
  have HEM : Hid (IntKind.i64.wrap (nv - 1) = ((n : Nat) : Int)) := hide (by rw [← hnv, IntKind.wrap_i64]; omega)
  have HB1 := hide B1
  have HG := hide hg
  rw [hnv]
  obtain ⟨XS, hXS⟩ : ∃ XS, mvs p = XS := ⟨_, rfl⟩
  rw [hXS] at HMA HDN HIH HE
  obtain ⟨res, hres⟩ : ∃ res, cnP (n + 1) p = res := ⟨_, rfl⟩
  rw [hres] at HE ⊢
  have hXL : XS.length ≤ 16384 := by rw [← hXS]; exact mvs_len p
  clear B1 hR hR1 hM ih hnv hXS hres h1 h3
  go_enter Tryd.func19, Tryd.ntmps19
  go_upto_region 1 with fail
  try rw [hg]
  clear hw1 hg
  go_wp2_with (refine wpList_load_ch rfl (.tmp 2) rfl g rfl C1 ?_)
  refine HMA.out.mono ?_
  rintro r w2 ⟨ad, cp, rfl, hO, hb2⟩
  obtain ⟨hlen, hcp, hcm, hcells⟩ := (Mr.of_own hO).at
  obtain ⟨M, hMl⟩ : ∃ M, XS.length = M := ⟨_, rfl⟩
  rw [hMl] at hXL hcp hcells
  have HML := hide hMl
  have HCL := hide hcells
  have HB2 := hide hb2
  unfold maxLen at hcm
  try rw [hMl]
  clear hO hb2 hcells hlen hMl C1 HMA
  go_wp2_with fail
  go_loopw [6, 7] (fun s v wr => ∃ (i : Nat) (sv : Int), v = .int .i64 i ∧ i ≤ M ∧ s = .int .i64 sv ∧ Hid ((XS.take i).foldl (fun s m => IntKind.i64.wrap (s + cnP n (nxP p m))) 0 = sv) ∧ Hid (Below w2.heap.size w2 wr)) (fun _ v _ => M - (intOf v).toNat)
  case atStart => exact ⟨0, 0, rfl, by omega, rfl, hide rfl, hide (Below.refl _ _)⟩
  case round =>
    obtain ⟨i, sv, rfl, hi, rfl, hsv, hb⟩ := hrel
    by_cases hlt : i < M
    · have hlt' : (i : Int) < (M : Int) := by omega
      obtain ⟨m, hm⟩ : ∃ m, XS[i]? = some m := ⟨XS[i]'(by rw [HML.out]; exact hlt), List.getElem?_eq_getElem _⟩
      obtain ⟨mb, rfl, hc⟩ := HCL.out (by omega)
      have hmm : m ∈ XS := List.mem_of_getElem? hm
      have HDm := hide (HDN.out m hmm)
      have HIm := hide (HIH.out m hmm)
      have HNX : Hid ((XS.take (i + 1)).foldl (fun s m => IntKind.i64.wrap (s + cnP n (nxP p m))) 0 = IntKind.i64.wrap (sv + cnP n (nxP p m))) := hide (by rw [List.take_add_one, hm, List.foldl_append, hsv.out]; rfl)
      obtain ⟨cr, hcr⟩ : ∃ cr, cnP n (nxP p m) = cr := ⟨_, rfl⟩
      rw [hcr] at HIm HNX
      have HCM : Hid (∀ W, Below w2.heap.size w2 W → W.cell? ⟨mb, i * 3, none⟩ = some (.int .i64 (m.1 : Nat)) ∧ W.cell? ⟨mb, i * 3 + 1, none⟩ = some (.int .i64 (m.2.1 : Nat)) ∧ W.cell? ⟨mb, i * 3 + 2, none⟩ = some (.int .i64 (m.2.2 : Nat))) := hide (fun W hbb => by
        obtain ⟨z1, z2, z3⟩ := hc i m hm
        exact ⟨(hbb.cell (p := ⟨mb, i * 3, none⟩) (World.block_lt_of_cell? w2 _ z1)).trans z1, (hbb.cell (p := ⟨mb, i * 3 + 1, none⟩) (World.block_lt_of_cell? w2 _ z2)).trans z2, (hbb.cell (p := ⟨mb, i * 3 + 2, none⟩) (World.block_lt_of_cell? w2 _ z3)).trans z3⟩)
      have HBX : Hid (∀ W, Below w2.heap.size w2 W → Below w1.heap.size w1 W) := hide (fun W hW => HB2.out.trans (hW.mono HB2.out.size))
      clear hcr hmm hm hc hsv
      go_upto_region 10 with fail
      refine wp_region_held (S := fun W5 => Below w2.heap.size w2 W5) (by kernel_rfl) ?_
      change wpAnyH _ _ _ _ _ _ _ _ (World.drew _)
      have SW : (fun W5 => Below w2.heap.size w2 W5) wr.drew := hb.out.trans (drewN_below _ _ 1)
      generalize wr.drew = wd at *
      refine wpAnyH_take (i := 0) (v := .int .i64 sv) rfl (by kernel_rfl) (by kernel_rfl) (by kernel_rfl) (fun _ _ _ h => h) (Or.inl ⟨by rfl, ?_⟩) SW ?_
      · intro W5 hW5
        go_simp <;> first | done | rfl | (rw [IntKind.wrap_i64]; omega) | omega
      go_simp
      refine wpAnyH_take (i := 1) (v := .agg (chP a c p)) rfl (by kernel_rfl) (by kernel_rfl) (by kernel_rfl) (fun _ _ _ h => h) (yieldsIf_load_mid (by rfl) 24 _ rfl g 0 (by rfl) [.slice a 64 c, .int .i64 (p.t : Nat), .int .i64 (p.k : Nat), .int .i64 p.e, .int .i64 (p.h : Nat), .int .i64 (p.f : Nat)] _ (fun W hW => (show Vb W g 24 [.slice a 64 c, .int .i64 (p.t : Nat), .int .i64 (p.k : Nat), .int .i64 p.e, .int .i64 (p.h : Nat), .int .i64 (p.f : Nat)] from HCH.out W (HBX.out W hW)).range) Tryd.underlying24 rfl size24) SW ?_
      go_simp
      refine wpAnyH_take (i := 2) (v := .slice (some ⟨mb, 0, none⟩) M cp) rfl (by kernel_rfl) (by kernel_rfl) (by kernel_rfl) (fun _ _ _ h => h) (Or.inl ⟨by rfl, ?_⟩) SW ?_
      · intro W5 hW5
        go_simp <;> first | done | rfl | (rw [IntKind.wrap_i64]; omega) | omega
      go_simp
      refine wpAnyH_take (i := 3) (v := .int .i64 (i : Nat)) rfl (by kernel_rfl) (by kernel_rfl) (by kernel_rfl) (fun _ _ _ h => h) (Or.inl ⟨by rfl, ?_⟩) SW ?_
      · intro W5 hW5
        go_simp <;> first | done | rfl | (rw [IntKind.wrap_i64]; omega) | omega
      go_simp
      refine wpAnyH_take (i := 4) (v := .pointer (some ⟨mb, i * 3, none⟩)) rfl (by kernel_rfl) (by kernel_rfl) (by kernel_rfl) (fun _ _ _ h => h) (Or.inl ⟨by rfl, ?_⟩) SW ?_
      · intro W5 hW5
        go_simp <;> first | done | rfl | (rw [IntKind.wrap_i64]; omega) | omega
      go_simp
      refine wpAnyH_take (i := 5) (v := .agg (mvC m).toArray) rfl (by kernel_rfl) (by kernel_rfl) (by kernel_rfl) (fun _ _ _ h => h) (Or.inl ⟨by rfl, ?_⟩) SW ?_
      · intro W5 hW5
        obtain ⟨y0, y1, y2⟩ := HCM.out W5 hW5
        go_simp <;> first | done | rfl | (rw [IntKind.wrap_i64]; omega) | omega
      go_simp
      refine wpAnyH_take (i := 7) (v := .int .i64 nv) rfl (by kernel_rfl) (by kernel_rfl) (by kernel_rfl) (fun _ _ _ h => h) (Or.inl ⟨by rfl, ?_⟩) SW ?_
      · intro W5 hW5
        go_simp <;> first | done | rfl | (rw [IntKind.wrap_i64]; omega) | omega
      go_simp
      refine wpAnyH_take (i := 8) (v := .int .i64 ((n : Nat) : Int)) rfl (by kernel_rfl) (by kernel_rfl) (by kernel_rfl) (fun _ _ _ h => h) (Or.inl ⟨by rfl, ?_⟩) SW ?_
      · intro W5 hW5
        have y0 := HEM.out
        go_simp <;> first | done | rfl | (rw [IntKind.wrap_i64]; omega) | omega
      go_simp
      refine wpAnyH_ready (rs := [6]) (by kernel_rfl) (by simp) ?_
      refine AllReadyH.cons rfl (fun K1 hK1 => ?_) AllReadyH.nil
      go_simp
      refine (HDm.out _ (HBX.out _ SW)).mono ?_
      rintro r w9 ⟨rb, c', rfl, hrd, -, hb9⟩
      have SWb := SW.trans (hb9.mono SW.size)
      refine hK1.out _ _ SWb (fun SW => ?_)
      clear hK1 K1 SWb
      have HRD := hide hrd
      clear hrd hb9
      go_simp
      refine wpAnyH_ready (rs := [9]) (by kernel_rfl) (by simp) ?_
      refine AllReadyH.cons rfl (fun K1 hK1 => ?_) AllReadyH.nil
      go_simp
      refine (HIm.out _ _ _ HRD.out).mono ?_
      rintro r w9 ⟨rfl, hb9⟩
      have SWb := SW.trans (hb9.mono SW.size)
      refine hK1.out _ _ SWb (fun SW => ?_)
      clear hK1 K1 SWb
      clear hb9
      go_simp
      refine wpAnyH_take (i := 10) (v := .int .i64 (IntKind.i64.wrap (sv + cr))) rfl (by kernel_rfl) (by kernel_rfl) (by kernel_rfl) (fun _ _ _ h => h) (Or.inl ⟨by rfl, ?_⟩) SW ?_
      · intro W5 hW5
        go_simp <;> first | done | rfl | (rw [IntKind.wrap_i64]; omega) | omega
      go_simp
      refine wpAnyH_take (i := 11) (v := .int .i64 (IntKind.i64.wrap (sv + cr))) rfl (by kernel_rfl) (by kernel_rfl) (by kernel_rfl) (fun _ _ _ h => h) (Or.inl ⟨by rfl, ?_⟩) SW ?_
      · intro W5 hW5
        go_simp <;> first | done | rfl | (rw [IntKind.wrap_i64]; omega) | omega
      go_simp
      refine wpAnyH_done (by kernel_rfl) ?_ _
      have HBN : Hid (Below w2.heap.size w2 w9) := hide SW
      clear SW hb HRD
      go_wp2_with fail
      exact ⟨⟨i + 1, _, by go_num, by omega, rfl, HNX, HBN⟩, by simp [intOf]; omega⟩
    · obtain rfl : i = M := by omega
      have HR : Hid (sv = res) := hide (by rw [← hsv.out, ← HE.out, List.take_of_length_le (by rw [HML.out]; exact Nat.le_refl _)])
      go_wp2_with fail
      go_ret
      exact ⟨by rw [HR.out]; rfl, HB1.out.trans ((HB2.out.trans (hb.out.mono HB2.out.size)).mono HB1.out.size)⟩
end

theorem CountRows_any (n : Nat) (hn : n ≤ 3) : ∀ p, MayP p → ∀ a c w, Rd w a 64 c p.Z → Calls Tryd.prog 19 #[.agg (chP a c p), .int .i64 (n : Nat)] w fun r w' => r = .returned (.int .i64 (cnP n p)) ∧ Below w.heap.size w w' := by
  have h1 : ∀ q, MayP q → ∀ a c w, Rd w a 64 c q.Z → Calls Tryd.prog 19 #[.agg (chP a c q), .int .i64 ((1 : Nat) : Int)] w fun r w' => r = .returned (.int .i64 (cnP 1 q)) ∧ Below w.heap.size w w' := fun q hM a c w hR => CountRows_one a c q hM w hR
  have h2 : ∀ q, MayP q → ∀ a c w, Rd w a 64 c q.Z → Calls Tryd.prog 19 #[.agg (chP a c q), .int .i64 ((2 : Nat) : Int)] w fun r w' => r = .returned (.int .i64 (cnP 2 q)) ∧ Below w.heap.size w w' := fun q hM a c w hR => CountRows_succ a c q hM w hR 1 (by omega) (by omega) h1
  intro p hM a c w hR
  rcases (show n = 0 ∨ n = 1 ∨ n = 2 ∨ n = 3 by omega) with rfl | rfl | rfl | rfl
  · exact CountRows_zero a c p w
  · exact h1 p hM a c w hR
  · exact h2 p hM a c w hR
  · exact CountRows_succ a c p hM w hR 2 (by omega) (by omega) h2

end Go.Proofs.YtbhlafdfpoacjaaDoor
