/-
  Chess: what the document makes of a position by one of its moves; a row of moves, read. No conditions beyond those that each theorem bears.
  Chess problems: rows of moves counted as the document counts them, walked. No conditions beyond those that each theorem bears.
  Chess problems: the best value and its first move, as the document finds them, walked. No conditions beyond those that each theorem bears.
-/
import Derived.Test.YtdmlamnonbmboaaDoorQ42
import Derived.Test.YtdmlamnonbmboaaDoorQ45
import Derived.Test.YtdmlamnonbmboaaDoorQ46
namespace Go.Proofs.YtdmlamnonbmboaaDoor
open Go.RowKit Go.Shelf

/-- The place that a pawn goes over is the document's. -/
theorem eR_psI {Z : List Int} {t : Nat} {k e : Int} {f q : Nat} (hS : Std Z) (hf : f < 64) (hq : q < 64) (h : tgB Z t k e f q = true) : eR Z f q = psI Z t f q := by
  unfold eR psI
  by_cases h1 : (zg Z f).natAbs = 1
  · have hz := hS.2.1 f hf
    have hpw := hz.2.2 h1
    have hfw : pci t 8 = 8 ∨ pci t 8 = -8 := by unfold pci; split <;> simp
    by_cases hd : ((q : Int) - (f : Int)).natAbs = 16
    · have hdx : dX f q = 0 := by unfold dX; omega
      have hno : q ∉ rch Z (zg Z f) f := fun hm => by
        have hx : KX (zg Z f) := KX_of hz.1 hz.2.1 (fun e0 => by rw [e0] at h1; exact absurd h1 (by decide))
        have := (rch_iff Z hf hq hx).2 hm
        rw [not_atR_file h1 hdx] at this
        exact absurd this (by simp)
      unfold tgB at h
      simp only [Bool.or_eq_true, Bool.and_eq_true, decide_eq_true_eq, beq_iff_eq] at h
      rcases h with (h | h) | h
      · exact absurd h.1 hno
      · have h2 := h.2
        unfold ahB on1 on2 fw at h2
        simp only [Bool.and_eq_true, Bool.or_eq_true, beq_iff_eq] at h2
        have h3 : (q : Int) = (f : Int) + pci t 8 + pci t 8 := by
          rcases h2.2 with h3 | h3
          · rcases hfw with e | e <;> rw [e] at h3 <;> omega
          · rcases hfw with e | e <;> rw [e] at h3 ⊢ <;> omega
        rw [if_pos ⟨h1, hd⟩, if_pos ⟨h1, h3⟩]
        rcases hfw with e | e <;> rw [e] at h3 ⊢ <;> omega
      · omega
    · have h3 : ¬ (q : Int) = (f : Int) + pci t 8 + pci t 8 := by
        rcases hfw with e | e <;> rw [e] <;> omega
      rw [if_neg (fun hh => hd hh.2), if_neg (fun hh => h3 hh.2)]
  · rw [if_neg (fun hh => h1 hh.1), if_neg (fun hh => h1 hh.1)]

/-- What the document makes of a position by one of its moves. -/
theorem done_nx (a : Option Addr) (c : Nat) (p : Ps) (hM : MayP p) (m : Nat × Nat × Nat) (hm : m ∈ mvs p) (w : World) (hR : Rd w a 64 c p.Z) :
    Calls Tryd.prog 30 #[.agg (chP a c p), .agg (mvC m).toArray] w fun r w' => ∃ rb c', r = .returned (.agg (chP (some ⟨rb, 0, none⟩) c' (nxP p m))) ∧ Rd w' (some ⟨rb, 0, none⟩) 64 c' (nxP p m).Z ∧ w.heap.size ≤ rb ∧ Below w.heap.size w w' := by
  have hO := (mvs_ok hM hm).1
  have k16 : p.k < 16 := by have := hM.k15; omega
  have hn := inB_lt hO.inn
  have h1 := MoveDone_any a c p.Z p.t p.k p.e p.h p.f hM.st.pz hM.t1 k16 hM.h9 hM.f9.2 m.1 m.2.1 m.2.2 hO.f hO.q (by omega) (fun htk => by
    have hta := tk_at hM.t1 hM.st hM.pas hO.f hO.q hO.own hO.tg htk
    exact ⟨hta.2.2.1, bk_nat hM.t1 hM.pas hta.1⟩) w hR
  have hdn := dn_eq (n := m.2.2) (e := p.e) hM.st hM.cas hO.f hO.q hO.own hO.tg
  have hkr := kR_eq hM hO
  have her := eR_psI hM.st hO.f hO.q hO.tg
  rw [hdn, hkr, her] at h1
  refine h1.mono ?_
  rintro r w' ⟨rb, c', rfl, hw, hrb, h64, hmx, hb⟩
  exact ⟨rb, c', rfl, hw.rd h64 hmx, hrb, hb⟩

/-- A row of moves that can be read, cell by cell. -/
theorem Mr.at {w : World} {ad : Option Addr} {n cp : Nat} {L : List (Nat × Nat × Nat)} (h : Mr w (.slice ad n cp) L) : L.length = n ∧ n ≤ cp ∧ cp ≤ maxLen ∧ (0 < n → ∃ g, ad = some ⟨g, 0, none⟩ ∧ ∀ i m, L[i]? = some m → w.cell? ⟨g, i * 3, none⟩ = some (.int .i64 (m.1 : Nat)) ∧ w.cell? ⟨g, i * 3 + 1, none⟩ = some (.int .i64 (m.2.1 : Nat)) ∧ w.cell? ⟨g, i * 3 + 2, none⟩ = some (.int .i64 (m.2.2 : Nat))) := by
  obtain ⟨a, c, h1, h2, h3, h4⟩ := h.ex
  simp only [Value.slice.injEq] at h1
  obtain ⟨rfl, rfl, rfl⟩ := h1
  refine ⟨rfl, h2, h3, fun hp => ?_⟩
  obtain ⟨g, h5, h6⟩ := h4 hp
  refine ⟨g, h5, fun i m hm => ⟨?_, ?_, ?_⟩⟩
  · exact h6 (i * 3 + 0) _ ((flM_at L i m hm 0 (by omega)).trans rfl)
  · exact h6 (i * 3 + 1) _ ((flM_at L i m hm 1 (by omega)).trans rfl)
  · exact h6 (i * 3 + 2) _ ((flM_at L i m hm 2 (by omega)).trans rfl)

end Go.Proofs.YtdmlamnonbmboaaDoor

namespace Go.Proofs.YtdmlamnonbmboaaDoor
open Go.RowKit Go.Shelf

theorem wrap_sum (a b : Nat) : IntKind.i64.wrap (IntKind.i64.wrap (a : Int) + IntKind.i64.wrap (b : Int)) = IntKind.i64.wrap ((a + b : Nat) : Int) := by
  rw [wrap_add, Int.add_comm, wrap_add, Int.add_comm, Int.natCast_add]

/-- What is asked of a result. -/
def rqP (y : Int) (p : Ps) : Bool := decide (resP p = y)
theorem rq_no {p : Ps} {y : Int} (hy : y = 1 ∨ y = 2) (h : (mvs p).isEmpty = false) : rqP y p = false := by
  unfold rqP resP
  rw [h, if_neg (by simp), decide_eq_false_iff_not]
  split
  · omega
  · split <;> omega
theorem rq_one : rqP 1 = mtP := by
  funext p
  cases h : (mvs p).isEmpty with
  | false => rw [rq_no (.inl rfl) h]; unfold mtP; rw [h, Bool.and_false]
  | true =>
    unfold rqP resP mtP
    rw [h, if_pos rfl, Bool.and_true]
    cases ckP p <;> rfl
theorem rq_two : rqP 2 = skP := by
  funext p
  cases h : (mvs p).isEmpty with
  | false => rw [rq_no (.inr rfl) h]; unfold skP; rw [h, Bool.and_false]
  | true =>
    unfold rqP resP skP
    rw [h, if_pos rfl, Bool.and_true]
    cases ckP p <;> rfl

attribute [local irreducible] mvs nxP rwN mtP skP ckP resP rqP
attribute [local go_sem] Oper.semAt_some wide_fn wide_fn0 wide_depth

section
variable (a : Option Addr) (c : Nat) (p : Ps) (hM : MayP p) (y : Int) (w : World) (hR : Rd w a 64 c p.Z)
include hM hR
set_option maxRecDepth 100000 in
set_option maxHeartbeats 2000000 in
theorem RowsOf_zero : Calls Tryd.prog 15 #[.agg (chP a c p), .int .i64 0, .int .i64 y] w fun r w' => r = .returned (.int .i64 (rwN (rqP y) 0 p : Nat)) ∧ Below w.heap.size w w' := by
  obtain ⟨w1, hw1⟩ : ∃ w1, w.alloc (.cells (chP a c p) 24) = w1 := ⟨_, rfl⟩
  obtain ⟨g, hg⟩ : ∃ g, w.heap.size = g := ⟨_, rfl⟩
  have B1 : Below w.heap.size w w1 := by rw [← hw1]; exact (Below.refl _ w).alloc (Nat.le_refl _) _
  have C1 : Ch w1 g a 64 c (p.t : Nat) (p.k : Nat) p.e (p.h : Nat) (p.f : Nat) := by rw [← hw1, ← hg]; exact Ch.new w a 64 c _ _ _ _ _
  have HRO := hide (ResultOf_any a c p hM w1 (hR.mono B1))
  have HE := hide (rwN_zero (rqP y) p)
  have HQ : Hid (rqP y p = decide (resP p = y)) := hide (by unfold rqP; rfl)
  have HB1 := hide B1
  obtain ⟨rp, hrp⟩ : ∃ rp, resP p = rp := ⟨_, rfl⟩
  rw [hrp] at HRO HQ
  clear B1 hR hM hrp
  go_enter Tryd.func15, Tryd.ntmps15
  go_upto_region 1 with fail
  try rw [hg]
  clear hw1 hg
  go_wp2_with (refine wpList_load_ch rfl (.tmp 3) rfl g rfl C1 ?_)
  refine HRO.out.mono ?_
  rintro r w2 ⟨rfl, hb2⟩
  have HB2 := hide (HB1.out.trans (hb2.mono HB1.out.size))
  clear hb2
  by_cases h : rp = y
  · have hb : (rp == y) = true := by simp [h]
    go_wp2_with fail
    go_ret
    exact ⟨by rw [HE.out, HQ.out, decide_eq_true h]; rfl, HB2.out⟩
  · have hb : (rp == y) = false := by simp [h]
    go_wp2_with fail
    go_ret
    exact ⟨by rw [HE.out, HQ.out, decide_eq_false h]; rfl, HB2.out⟩

set_option maxRecDepth 100000 in
set_option maxHeartbeats 8000000 in
theorem RowsOf_succ (n : Nat) (hn : n ≤ 9) (ih : ∀ q, MayP q → ∀ a c w, Rd w a 64 c q.Z → Calls Tryd.prog 15 #[.agg (chP a c q), .int .i64 (n : Nat), .int .i64 y] w fun r w' => r = .returned (.int .i64 (IntKind.i64.wrap (rwN (rqP y) n q : Nat))) ∧ Below w.heap.size w w') :
    Calls Tryd.prog 15 #[.agg (chP a c p), .int .i64 ((n + 1 : Nat) : Int), .int .i64 y] w fun r w' => r = .returned (.int .i64 (IntKind.i64.wrap (rwN (rqP y) (n + 1) p : Nat))) ∧ Below w.heap.size w w' := by
  obtain ⟨w1, hw1⟩ : ∃ w1, w.alloc (.cells (chP a c p) 24) = w1 := ⟨_, rfl⟩
  obtain ⟨g, hg⟩ : ∃ g, w.heap.size = g := ⟨_, rfl⟩
  have B1 : Below w.heap.size w w1 := by rw [← hw1]; exact (Below.refl _ w).alloc (Nat.le_refl _) _
  have C1 : Ch w1 g a 64 c (p.t : Nat) (p.k : Nat) p.e (p.h : Nat) (p.f : Nat) := by rw [← hw1, ← hg]; exact Ch.new w a 64 c _ _ _ _ _
  have hR1 := hR.mono B1
  have HMA := hide (MovesAll_any a c p hM w1 hR1)
  have HCH : Hid (∀ W, Below w1.heap.size w1 W → Ch W g a 64 c (p.t : Nat) (p.k : Nat) p.e (p.h : Nat) (p.f : Nat)) := hide (fun W hb => C1.below hb C1.lt)
  have HDN : Hid (∀ m ∈ mvs p, ∀ W, Below w1.heap.size w1 W → Calls Tryd.prog 30 #[.agg (chP a c p), .agg (mvC m).toArray] W fun r w' => ∃ rb c', r = .returned (.agg (chP (some ⟨rb, 0, none⟩) c' (nxP p m))) ∧ Rd w' (some ⟨rb, 0, none⟩) 64 c' (nxP p m).Z ∧ W.heap.size ≤ rb ∧ Below W.heap.size W w') := hide (fun m hm W hb => done_nx a c p hM m hm W (hR1.mono hb))
  have HIH := hide (fun m (hm : m ∈ mvs p) a' c' W (h : Rd W a' 64 c' (nxP p m).Z) => ih (nxP p m) (may_nx hM hm) a' c' W h)
  have HE : Hid (((mvs p).map fun m => rwN (rqP y) n (nxP p m)).sum = rwN (rqP y) (n + 1) p) := hide (rwN_succ (rqP y) n p).symm
  obtain ⟨nv, hnv⟩ : ∃ nv : Int, ((n + 1 : Nat) : Int) = nv := ⟨_, rfl⟩
  have e0 : (nv == 0) = false := by rw [← hnv, beq_eq_false_iff_ne]; omega
  have HEM : Hid (IntKind.i64.wrap (nv - 1) = ((n : Nat) : Int)) := hide (by rw [← hnv, IntKind.wrap_i64]; omega)
  have HB1 := hide B1
  rw [hnv]
  obtain ⟨XS, hXS⟩ : ∃ XS, mvs p = XS := ⟨_, rfl⟩
  rw [hXS] at HMA HDN HIH HE
  obtain ⟨RW, hRW⟩ : ∃ RW : Nat × Nat × Nat → Nat, (fun m => rwN (rqP y) n (nxP p m)) = RW := ⟨_, rfl⟩
  have HRW : Hid (∀ m, rwN (rqP y) n (nxP p m) = RW m) := hide (fun m => by rw [← hRW])
  rw [hRW] at HE
  obtain ⟨res, hres⟩ : ∃ res, rwN (rqP y) (n + 1) p = res := ⟨_, rfl⟩
  rw [hres] at HE ⊢
  have hXL : XS.length ≤ 16384 := by rw [← hXS]; exact mvs_len p
  clear B1 hR hR1 hM ih hnv hXS hres hn hRW
  go_enter Tryd.func15, Tryd.ntmps15
  go_upto_region 1 with fail
  try rw [hg]
  clear hw1 hg
  go_wp2_with (refine wpList_load_ch rfl (.tmp 3) rfl g rfl C1 ?_)
  refine HMA.out.mono ?_
  rintro r w2 ⟨ad, cp, rfl, hO, hb2⟩
  obtain ⟨hlen, hcp, hcm, hcells⟩ := (Mr.of_own hO).at
  obtain ⟨M, hMl⟩ : ∃ M, XS.length = M := ⟨_, rfl⟩
  rw [hMl] at hXL hcp hcells
  have HML := hide hMl
  have HCL := hide hcells
  have HB2 := hide hb2
  unfold maxLen at hcm
  try rw [hMl]
  clear hO hb2 hcells hlen hMl C1 HMA
  go_wp2_with fail
  go_loopw [8, 9] (fun s v wr => ∃ (i : Nat) (sv : Int), v = .int .i64 i ∧ i ≤ M ∧ s = .int .i64 sv ∧ Hid (sv = IntKind.i64.wrap (((XS.take i).map RW).sum : Nat)) ∧ Hid (Below w2.heap.size w2 wr)) (fun _ v _ => M - (intOf v).toNat)
  case atStart => exact ⟨0, 0, rfl, by omega, rfl, hide (by rw [List.take_zero, List.map_nil, List.sum_nil, IntKind.wrap_i64]; omega), hide (Below.refl _ _)⟩
  case round =>
    obtain ⟨i, sv, rfl, hi, rfl, hsv, hb⟩ := hrel
    by_cases hlt : i < M
    · have hlt' : (i : Int) < (M : Int) := by omega
      obtain ⟨m, hm⟩ : ∃ m, XS[i]? = some m := ⟨XS[i]'(by rw [HML.out]; exact hlt), List.getElem?_eq_getElem _⟩
      obtain ⟨mb, rfl, hc⟩ := HCL.out (by omega)
      have hmm : m ∈ XS := List.mem_of_getElem? hm
      have HDm := hide (HDN.out m hmm)
      have HIm := hide (HIH.out m hmm)
      rw [HRW.out m] at HIm
      obtain ⟨cr, hcr⟩ : ∃ cr, IntKind.i64.wrap ((RW m : Nat) : Int) = cr := ⟨_, rfl⟩
      have HNX : Hid (IntKind.i64.wrap (sv + cr) = IntKind.i64.wrap (((XS.take (i + 1)).map RW).sum : Nat)) := hide (by
        rw [List.take_add_one, hm, List.map_append, List.sum_append, hsv.out, ← hcr]
        simp only [Option.toList_some, List.map_cons, List.map_nil, List.sum_cons, List.sum_nil, Nat.add_zero]
        exact wrap_sum _ _)
      rw [hcr] at HIm
      have HCM : Hid (∀ W, Below w2.heap.size w2 W → W.cell? ⟨mb, i * 3, none⟩ = some (.int .i64 (m.1 : Nat)) ∧ W.cell? ⟨mb, i * 3 + 1, none⟩ = some (.int .i64 (m.2.1 : Nat)) ∧ W.cell? ⟨mb, i * 3 + 2, none⟩ = some (.int .i64 (m.2.2 : Nat))) := hide (fun W hbb => by
        obtain ⟨z1, z2, z3⟩ := hc i m hm
        exact ⟨(hbb.cell (p := ⟨mb, i * 3, none⟩) (World.block_lt_of_cell? w2 _ z1)).trans z1, (hbb.cell (p := ⟨mb, i * 3 + 1, none⟩) (World.block_lt_of_cell? w2 _ z2)).trans z2, (hbb.cell (p := ⟨mb, i * 3 + 2, none⟩) (World.block_lt_of_cell? w2 _ z3)).trans z3⟩)
      have HBX : Hid (∀ W, Below w2.heap.size w2 W → Below w1.heap.size w1 W) := hide (fun W hW => HB2.out.trans (hW.mono HB2.out.size))
      clear hmm hm hc hcr
      go_upto_region 10 with fail
      refine wp_region_held (S := fun W5 => Below w2.heap.size w2 W5) (by kernel_rfl) ?_
      change wpAnyH _ _ _ _ _ _ _ _ (World.drew _)
      have SW : (fun W5 => Below w2.heap.size w2 W5) wr.drew := hb.out.trans (drewN_below _ _ 1)
      generalize wr.drew = wd at *
      refine wpAnyH_take (i := 0) (v := .int .i64 sv) rfl (by kernel_rfl) (by kernel_rfl) (by kernel_rfl) (fun _ _ _ h => h) (Or.inl ⟨by rfl, ?_⟩) SW ?_
      · intro W5 hW5
        go_simp <;> first | done | rfl | (rw [IntKind.wrap_i64]; omega) | omega
      go_simp
      refine wpAnyH_take (i := 1) (v := .agg (chP a c p)) rfl (by kernel_rfl) (by kernel_rfl) (by kernel_rfl) (fun _ _ _ h => h) (yieldsIf_load_mid (by rfl) 24 _ rfl g 0 (by rfl) [.slice a 64 c, .int .i64 (p.t : Nat), .int .i64 (p.k : Nat), .int .i64 p.e, .int .i64 (p.h : Nat), .int .i64 (p.f : Nat)] _ (fun W hW => (show Vb W g 24 [.slice a 64 c, .int .i64 (p.t : Nat), .int .i64 (p.k : Nat), .int .i64 p.e, .int .i64 (p.h : Nat), .int .i64 (p.f : Nat)] from HCH.out W (HBX.out W hW)).range) Tryd.underlying24 rfl size24) SW ?_
      go_simp
      refine wpAnyH_take (i := 2) (v := .slice (some ⟨mb, 0, none⟩) M cp) rfl (by kernel_rfl) (by kernel_rfl) (by kernel_rfl) (fun _ _ _ h => h) (Or.inl ⟨by rfl, ?_⟩) SW ?_
      · intro W5 hW5
        go_simp <;> first | done | rfl | (rw [IntKind.wrap_i64]; omega) | omega
      go_simp
      refine wpAnyH_take (i := 3) (v := .int .i64 (i : Nat)) rfl (by kernel_rfl) (by kernel_rfl) (by kernel_rfl) (fun _ _ _ h => h) (Or.inl ⟨by rfl, ?_⟩) SW ?_
      · intro W5 hW5
        go_simp <;> first | done | rfl | (rw [IntKind.wrap_i64]; omega) | omega
      go_simp
      refine wpAnyH_take (i := 4) (v := .pointer (some ⟨mb, i * 3, none⟩)) rfl (by kernel_rfl) (by kernel_rfl) (by kernel_rfl) (fun _ _ _ h => h) (Or.inl ⟨by rfl, ?_⟩) SW ?_
      · intro W5 hW5
        go_simp <;> first | done | rfl | (rw [IntKind.wrap_i64]; omega) | omega
      go_simp
      refine wpAnyH_take (i := 5) (v := .agg (mvC m).toArray) rfl (by kernel_rfl) (by kernel_rfl) (by kernel_rfl) (fun _ _ _ h => h) (Or.inl ⟨by rfl, ?_⟩) SW ?_
      · intro W5 hW5
        obtain ⟨y0, y1, y2⟩ := HCM.out W5 hW5
        go_simp <;> first | done | rfl | (rw [IntKind.wrap_i64]; omega) | omega
      go_simp
      refine wpAnyH_take (i := 7) (v := .int .i64 nv) rfl (by kernel_rfl) (by kernel_rfl) (by kernel_rfl) (fun _ _ _ h => h) (Or.inl ⟨by rfl, ?_⟩) SW ?_
      · intro W5 hW5
        go_simp <;> first | done | rfl | (rw [IntKind.wrap_i64]; omega) | omega
      go_simp
      refine wpAnyH_take (i := 8) (v := .int .i64 ((n : Nat) : Int)) rfl (by kernel_rfl) (by kernel_rfl) (by kernel_rfl) (fun _ _ _ h => h) (Or.inl ⟨by rfl, ?_⟩) SW ?_
      · intro W5 hW5
        have y0 := HEM.out
        go_simp <;> first | done | rfl | (rw [IntKind.wrap_i64]; omega) | omega
      go_simp
      refine wpAnyH_take (i := 9) (v := .int .i64 y) rfl (by kernel_rfl) (by kernel_rfl) (by kernel_rfl) (fun _ _ _ h => h) (Or.inl ⟨by rfl, ?_⟩) SW ?_
      · intro W5 hW5
        go_simp <;> first | done | rfl | (rw [IntKind.wrap_i64]; omega) | omega
      go_simp
      refine wpAnyH_ready (rs := [6]) (by kernel_rfl) (by simp) ?_
      refine AllReadyH.cons rfl (fun K1 hK1 => ?_) AllReadyH.nil
      go_simp
      refine (HDm.out _ (HBX.out _ SW)).mono ?_
      rintro r w9 ⟨rb, c', rfl, hrd, -, hb9⟩
      have SWb := SW.trans (hb9.mono SW.size)
      refine hK1.out _ _ SWb (fun SW => ?_)
      clear hK1 K1 SWb
      have HRD := hide hrd
      clear hrd hb9
      go_simp
      refine wpAnyH_ready (rs := [10]) (by kernel_rfl) (by simp) ?_
      refine AllReadyH.cons rfl (fun K1 hK1 => ?_) AllReadyH.nil
      go_simp
      refine (HIm.out _ _ _ HRD.out).mono ?_
      rintro r w9 ⟨rfl, hb9⟩
      have SWb := SW.trans (hb9.mono SW.size)
      refine hK1.out _ _ SWb (fun SW => ?_)
      clear hK1 K1 SWb
      clear hb9
      go_simp
      refine wpAnyH_take (i := 11) (v := .int .i64 (IntKind.i64.wrap (sv + cr))) rfl (by kernel_rfl) (by kernel_rfl) (by kernel_rfl) (fun _ _ _ h => h) (Or.inl ⟨by rfl, ?_⟩) SW ?_
      · intro W5 hW5
        go_simp <;> first | done | rfl | (rw [IntKind.wrap_i64]; omega) | omega
      go_simp
      refine wpAnyH_take (i := 12) (v := .int .i64 (IntKind.i64.wrap (sv + cr))) rfl (by kernel_rfl) (by kernel_rfl) (by kernel_rfl) (fun _ _ _ h => h) (Or.inl ⟨by rfl, ?_⟩) SW ?_
      · intro W5 hW5
        go_simp <;> first | done | rfl | (rw [IntKind.wrap_i64]; omega) | omega
      go_simp
      refine wpAnyH_done (by kernel_rfl) ?_ _
      have HBN : Hid (Below w2.heap.size w2 w9) := hide SW
      clear SW hb HRD
      go_wp2_with fail
      exact ⟨⟨i + 1, _, by go_num, by omega, rfl, HNX, HBN⟩, by simp [intOf]; omega⟩
    · obtain rfl : i = M := by omega
      have HR : Hid (sv = IntKind.i64.wrap (res : Nat)) := hide (by rw [hsv.out, ← HE.out, List.take_of_length_le (by rw [HML.out]; exact Nat.le_refl _)])
      go_wp2_with fail
      go_ret
      exact ⟨by rw [← HR.out]; rfl, HB1.out.trans ((HB2.out.trans (hb.out.mono HB2.out.size)).mono HB1.out.size)⟩
end

theorem RowsOf_any (y : Int) (n : Nat) (hn : n ≤ 9) : ∀ p, MayP p → ∀ a c w, Rd w a 64 c p.Z → Calls Tryd.prog 15 #[.agg (chP a c p), .int .i64 (n : Nat), .int .i64 y] w fun r w' => r = .returned (.int .i64 (IntKind.i64.wrap (rwN (rqP y) n p : Nat))) ∧ Below w.heap.size w w' := by
  induction n with
  | zero =>
    intro p hM a c w hR
    refine (RowsOf_zero a c p hM y w hR).mono ?_
    rintro r w' ⟨rfl, hb⟩
    refine ⟨?_, hb⟩
    have h : rwN (rqP y) 0 p ≤ 1 := by rw [rwN_zero]; split <;> omega
    have e : IntKind.i64.wrap ((rwN (rqP y) 0 p : Nat) : Int) = (rwN (rqP y) 0 p : Nat) := by rw [IntKind.wrap_i64]; omega
    rw [e]
  | succ n ih => exact fun p hM a c w hR => RowsOf_succ a c p hM y w hR n (by omega) (ih (by omega))

end Go.Proofs.YtdmlamnonbmboaaDoor

namespace Go.Proofs.YtdmlamnonbmboaaDoor
open Go.RowKit Go.Shelf

attribute [local irreducible] mvs nxP mtP skP ckP mS pci bG bStep
attribute [local go_sem] Oper.semAt_some wide_fn wide_fn0 wide_depth

set_option maxRecDepth 100000 in
set_option maxHeartbeats 4000000 in
theorem BestOf_over (a : Option Addr) (c : Nat) (p : Ps) (hM : MayP p) (dv ply : Int) (hp0 : 0 ≤ ply) (hp1 : ply ≤ 900) (w : World) (hR : Rd w a 64 c p.Z) (hne : (mvs p).isEmpty = true) :
    Calls Tryd.prog 16 #[.agg (chP a c p), .int .i64 dv, .int .i64 ply] w fun r w' => r = .returned (.tuple #[.int .i64 (if mtP p = true then ply - 1000 else 0), .agg (mvC (0, 0, 0)).toArray]) ∧ Below w.heap.size w w' := by
  obtain ⟨w1, hw1⟩ : ∃ w1, (w.alloc (.cells (chP a c p) 24)).alloc (.cells #[.int .i64 0, .int .i64 0, .int .i64 0] 42) = w1 := ⟨_, rfl⟩
  obtain ⟨g, hg⟩ : ∃ g, w.heap.size = g := ⟨_, rfl⟩
  have B1 : Below w.heap.size w w1 := by rw [← hw1]; exact ((Below.refl _ w).alloc (Nat.le_refl _) _).alloc (by simp) _
  have s1 : w1.heap.size = g + 2 := by rw [← hw1, ← hg]; simp
  have C1 : Ch w1 g a 64 c (p.t : Nat) (p.k : Nat) p.e (p.h : Nat) (p.f : Nat) := by rw [← hw1, ← hg]; exact (Ch.new w a 64 c _ _ _ _ _).old _
  have M1 : Vb w1 (g + 1) 42 (mvC (0, 0, 0)) := by
    rw [← hw1, ← hg]
    have h := Vb.new (w.alloc (.cells (chP a c p) 24)) 42 [.int .i64 0, .int .i64 0, .int .i64 0]
    rw [World.size_alloc] at h
    exact h
  have hR1 := hR.mono B1
  have HMA := hide (MovesAll_any a c p hM w1 hR1)
  have HCH : Hid (∀ W, Below w1.heap.size w1 W → Ch W g a 64 c (p.t : Nat) (p.k : Nat) p.e (p.h : Nat) (p.f : Nat)) := hide (fun W hb => C1.below hb C1.lt)
  have HM1 := hide M1
  have HB1 := hide B1
  have HS1 := hide s1
  have HG := hide hg
  have HIC : Hid (∀ W, Below w1.heap.size w1 W → Calls Tryd.prog 26 #[.slice a 64 c, .int .i64 (p.t : Nat)] W fun r w' => r = .returned (.bool (ckP p)) ∧ Below W.heap.size W w') := hide (fun W hb => by
    have h := InCheckR_any a c p.Z p.t (kf p.Z p.t) hM.t1 (kf_kg hM.st p.t).fst hM.st.pz W (hR1.mono hb)
    rw [← ckP_atL hM] at h
    exact h)
  have hmt : mtP p = ckP p := by unfold mtP; rw [hne, Bool.and_true]
  rw [hmt]
  obtain ⟨cb, hcb⟩ : ∃ cb, ckP p = cb := ⟨_, rfl⟩
  rw [hcb] at HIC ⊢
  have hl : (mvs p).length = 0 := by rw [List.isEmpty_iff] at hne; rw [hne]; rfl
  rw [hl] at HMA
  clear B1 hR hR1 hM hne hmt hcb hl M1 s1
  go_enter Tryd.func16, Tryd.ntmps16
  go_upto_region 1 with fail
  try rw [hg]
  clear hw1 hg
  go_wp2_with (refine wpList_load_ch rfl (.tmp 3) rfl g rfl C1 ?_)
  refine HMA.out.mono ?_
  rintro r w2 ⟨ad, cp, rfl, -, hb2⟩
  have HB2 : Hid (Below w1.heap.size w1 w2) := hide hb2
  obtain ⟨y0, y1, -, -, -, -⟩ := (HCH.out w2 hb2).cells
  clear hb2 C1 HMA
  go_wp2_with fail
  refine (HIC.out w2 HB2.out).mono ?_
  rintro r w3 ⟨rfl, hb3⟩
  have HB3 : Hid (Below w1.heap.size w1 w3) := hide (HB2.out.trans (hb3.mono HB2.out.size))
  clear hb3 y0 y1
  have V3 := HM1.out.mono HB3.out
  have b2 : Below w.heap.size w w3 := HB1.out.trans (HB3.out.mono HB1.out.size)
  cases cb with
  | true =>
    go_wp2_with (refine wpList_store_vb rfl 42 (.tmp 7) (.tmp 30) rfl (g + 1) (mvC (0, 0, 0)) _ (by simp [Act.eval]) rfl V3 rfl row26 (mvC_one _) ?_; intro w4 V4 K4)
    have HBW := hide (b2.trans (K4.below b2.size (fun j hj e => by have := HG.out; omega)))
    clear b2 K4 V3
    try simp only [Exit.inBlock, Exit.then]
    refine bodyPost_ret (results_tr rfl _ _ (g + 1) rfl rfl (load_mv V4)) rfl ?_
    exact ⟨rfl, HBW.out⟩
  | false =>
    go_wp2_with (refine wpList_store_vb rfl 42 (.tmp 7) (.tmp 34) rfl (g + 1) (mvC (0, 0, 0)) _ (by simp [Act.eval]) rfl V3 rfl row26 (mvC_one _) ?_; intro w4 V4 K4)
    have HBW := hide (b2.trans (K4.below b2.size (fun j hj e => by have := HG.out; omega)))
    clear b2 K4 V3
    try simp only [Exit.inBlock, Exit.then]
    refine bodyPost_ret (results_tr rfl _ _ (g + 1) rfl rfl (load_mv V4)) rfl ?_
    exact ⟨rfl, HBW.out⟩

set_option maxRecDepth 100000 in
set_option maxHeartbeats 4000000 in
theorem BestOf_end (a : Option Addr) (c : Nat) (p : Ps) (hM : MayP p) (ply : Int) (w : World) (hR : Rd w a 64 c p.Z) (hne : (mvs p).isEmpty = false) :
    Calls Tryd.prog 16 #[.agg (chP a c p), .int .i64 ply, .int .i64 ply] w fun r w' => r = .returned (.tuple #[.int .i64 (pci p.t (mS p.Z 64)), .agg (mvC (0, 0, 0)).toArray]) ∧ Below w.heap.size w w' := by
  obtain ⟨w1, hw1⟩ : ∃ w1, (w.alloc (.cells (chP a c p) 24)).alloc (.cells #[.int .i64 0, .int .i64 0, .int .i64 0] 42) = w1 := ⟨_, rfl⟩
  obtain ⟨g, hg⟩ : ∃ g, w.heap.size = g := ⟨_, rfl⟩
  have B1 : Below w.heap.size w w1 := by rw [← hw1]; exact ((Below.refl _ w).alloc (Nat.le_refl _) _).alloc (by simp) _
  have s1 : w1.heap.size = g + 2 := by rw [← hw1, ← hg]; simp
  have C1 : Ch w1 g a 64 c (p.t : Nat) (p.k : Nat) p.e (p.h : Nat) (p.f : Nat) := by rw [← hw1, ← hg]; exact (Ch.new w a 64 c _ _ _ _ _).old _
  have M1 : Vb w1 (g + 1) 42 (mvC (0, 0, 0)) := by
    rw [← hw1, ← hg]
    have h := Vb.new (w.alloc (.cells (chP a c p) 24)) 42 [.int .i64 0, .int .i64 0, .int .i64 0]
    rw [World.size_alloc] at h
    exact h
  have hR1 := hR.mono B1
  have HMA := hide (MovesAll_any a c p hM w1 hR1)
  have HCH : Hid (∀ W, Below w1.heap.size w1 W → Ch W g a 64 c (p.t : Nat) (p.k : Nat) p.e (p.h : Nat) (p.f : Nat)) := hide (fun W hb => C1.below hb C1.lt)
  have HM1 := hide M1
  have HB1 := hide B1
  have HS1 := hide s1
  have HG := hide hg
  have hpz := hM.st.pz
  have ht1 := hM.t1
  have HMO := hide (fun W (hb : Below w1.heap.size w1 W) => MaterialOf_any a c p.Z (p.t : Nat) (p.k : Nat) p.e (p.h : Nat) (p.f : Nat) hpz W (hR1.mono hb))
  have HSS := hide (SideSign_any (p.t : Nat) (by omega))
  have hbd := mS_bd hpz 64
  have HPC : Hid (wrap64 (mS p.Z 64 * (1 - 2 * (p.t : Nat))) = pci p.t (mS p.Z 64)) := hide (by
    unfold pci wrap64
    rcases (show p.t = 0 ∨ p.t = 1 by omega) with e | e
    · rw [e, if_pos rfl]; omega
    · rw [e, if_neg (by decide)]; omega)
  obtain ⟨ms, hms⟩ : ∃ ms, mS p.Z 64 = ms := ⟨_, rfl⟩
  obtain ⟨sg, hsg⟩ : ∃ sg : Int, 1 - 2 * ((p.t : Nat) : Int) = sg := ⟨_, rfl⟩
  obtain ⟨pv, hpv⟩ : ∃ pv, pci p.t ms = pv := ⟨_, rfl⟩
  rw [hms] at HMO HPC ⊢
  rw [hsg] at HSS HPC
  rw [hpv] at HPC ⊢
  obtain ⟨M, hMl⟩ : ∃ M, (mvs p).length = M := ⟨_, rfl⟩
  have hM0 : 0 < M := by
    rw [← hMl]
    cases hx : mvs p with
    | nil => rw [hx] at hne; exact absurd hne (by decide)
    | cons x r => exact Nat.succ_pos _
  have hXL : M ≤ 16384 := by rw [← hMl]; exact mvs_len p
  have e0 : (((M : Nat) : Int) == 0) = false := by rw [beq_eq_false_iff_ne]; omega
  rw [hMl] at HMA
  clear B1 hR hR1 hM hne hMl M1 s1 hms hsg hpv hpz ht1 hbd
  go_enter Tryd.func16, Tryd.ntmps16
  go_upto_region 1 with fail
  try rw [hg]
  clear hw1 hg
  go_wp2_with (refine wpList_load_ch rfl (.tmp 3) rfl g rfl C1 ?_)
  refine HMA.out.mono ?_
  rintro r w2 ⟨ad, cp, rfl, -, hb2⟩
  have HB2 : Hid (Below w1.heap.size w1 w2) := hide hb2
  have C2 := HCH.out w2 hb2
  clear hb2 C1 HMA
  go_wp2_with (refine wpList_load_ch rfl (.tmp 3) rfl g rfl C2 ?_)
  refine (HMO.out w2 HB2.out).mono ?_
  rintro r w3 ⟨rfl, hb3⟩
  have HB3 : Hid (Below w1.heap.size w1 w3) := hide (HB2.out.trans (hb3.mono HB2.out.size))
  obtain ⟨-, y1, -, -, -, -⟩ := (HCH.out w3 HB3.out).cells
  clear hb3 C2
  have V3 := HM1.out.mono HB3.out
  have b2 : Below w.heap.size w w3 := HB1.out.trans (HB3.out.mono HB1.out.size)
  have hpc := HPC.out
  go_wp2_with (first | (refine (HSS.out _).mono ?_; rintro r w9 ⟨rfl, hw9⟩; subst w9) | (refine wpList_store_vb rfl 42 (.tmp 7) (.tmp 48) rfl (g + 1) (mvC (0, 0, 0)) _ (by simp [Act.eval]) rfl V3 rfl row26 (mvC_one _) ?_; intro w4 V4 K4))
  have HBW := hide (b2.trans (K4.below b2.size (fun j hj e => by have := HG.out; omega)))
  clear b2 K4 V3
  try simp only [Exit.inBlock, Exit.then]
  refine bodyPost_ret (results_tr rfl _ _ (g + 1) rfl rfl (load_mv V4)) rfl ?_
  refine ⟨?_, HBW.out⟩
  first | rfl | (rw [← hpc]; rfl)


end Go.Proofs.YtdmlamnonbmboaaDoor
