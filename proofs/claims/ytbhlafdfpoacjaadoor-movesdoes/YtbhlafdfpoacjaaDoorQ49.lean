/-
  Chess: what the law of moves asks besides: moves found in lists, lists and positions compared, the document's result. No conditions beyond those that each theorem bears.
-/
import Derived.Test.YtbhlafdfpoacjaaDoorQ46
import Derived.Test.YtbhlafdfpoacjaaDoorQ48
namespace Go.Proofs.YtbhlafdfpoacjaaDoor
open Go.RowKit Go.Shelf

theorem neq26 (w : World) (a b c x y z : Int) : (binOp .neq 26 (m3 a b c) (m3 x y z)).run Tryd.prog w = .ok (.bool (!(eq3 a b c x y z))) w := by
  have h := eq26 w a b c x y z
  rw [run_eql_struct] at h
  rw [run_neq_struct]
  cases hr : (Op.equalIn 10000 26 (m3 a b c) (m3 x y z)).run Tryd.prog w with
  | ok v w' =>
    rw [hr] at h
    simp only [Result.andThen_ok, Result.ok.injEq, Value.bool.injEq] at h ⊢
    exact ⟨by rw [h.1], h.2⟩
  | _ => rw [hr] at h; simp [Result.andThen] at h
section
variable {ops : Array Oper} {S : World → Prop} {op : Oper} {a : Act}
theorem yields_eq26 (hw : Region.wanted op (yielded ops a.tmps) = true) (x y : Operand) (ho : op.op = .binOp .eql 26 x y 26) {a1 a2 a3 b1 b2 b3 : Int}
    (hx : a.eval x = m3 a1 a2 a3) (hy : a.eval y = m3 b1 b2 b3) : YieldsIf Tryd.prog ops S op (.bool (eq3 a1 a2 a3 b1 b2 b3)) a :=
  .inl ⟨hw, fun w _ => by
    unfold execOp
    have h1 := run_eqGuard_agg (P := Tryd.prog) w .eql 26 x y #[.int .i64 a1, .int .i64 a2, .int .i64 a3] #[.int .i64 b1, .int .i64 b2, .int .i64 b3] guard26
    have h2 := eq26 w a1 a2 a3 b1 b2 b3
    simp only [ho, hx, hy, Sem.run_bind, h1, h2, Result.andThen_ok]
    rfl⟩
theorem yields_neq26 (hw : Region.wanted op (yielded ops a.tmps) = true) (x y : Operand) (ho : op.op = .binOp .neq 26 x y 26) {a1 a2 a3 b1 b2 b3 : Int}
    (hx : a.eval x = m3 a1 a2 a3) (hy : a.eval y = m3 b1 b2 b3) : YieldsIf Tryd.prog ops S op (.bool (!(eq3 a1 a2 a3 b1 b2 b3))) a :=
  .inl ⟨hw, fun w _ => by
    unfold execOp
    have h1 := run_eqGuard_agg (P := Tryd.prog) w .neq 26 x y #[.int .i64 a1, .int .i64 a2, .int .i64 a3] #[.int .i64 b1, .int .i64 b2, .int .i64 b3] guard26
    have h2 := neq26 w a1 a2 a3 b1 b2 b3
    simp only [ho, hx, hy, Sem.run_bind, h1, h2, Result.andThen_ok]
    rfl⟩
end
theorem eq3_self (a b c : Int) : eq3 a b c a b c = true := by unfold eq3; simp

/-- What a row of moves holds, in each world behind. -/
structure Rm3 (w : World) (ad : Option Addr) (n cp : Nat) (L : List (Nat × Nat × Nat)) : Prop where
  len : L.length = n
  cap : n ≤ cp
  max : cp ≤ 9223372036854775807
  at_ : 0 < n → ∃ g, ad = some ⟨g, 0, none⟩ ∧ ∀ W, Below w.heap.size w W → ∀ i m, L[i]? = some m → W.cell? ⟨g, i * 3, none⟩ = some (.int .i64 (m.1 : Nat)) ∧ W.cell? ⟨g, i * 3 + 1, none⟩ = some (.int .i64 (m.2.1 : Nat)) ∧ W.cell? ⟨g, i * 3 + 2, none⟩ = some (.int .i64 (m.2.2 : Nat))
theorem Rm3.of {w : World} {ad : Option Addr} {n cp : Nat} {L : List (Nat × Nat × Nat)} (h : Mr w (.slice ad n cp) L) : Rm3 w ad n cp L := by
  obtain ⟨h1, h2, h3, h4⟩ := h.at
  unfold maxLen at h3
  refine ⟨h1, h2, by omega, fun hp => ?_⟩
  obtain ⟨g, h5, h6⟩ := h4 hp
  refine ⟨g, h5, fun W hb i m hm => ?_⟩
  obtain ⟨z1, z2, z3⟩ := h6 i m hm
  exact ⟨(hb.cell (p := ⟨g, i * 3, none⟩) (World.block_lt_of_cell? w _ z1)).trans z1, (hb.cell (p := ⟨g, i * 3 + 1, none⟩) (World.block_lt_of_cell? w _ z2)).trans z2, (hb.cell (p := ⟨g, i * 3 + 2, none⟩) (World.block_lt_of_cell? w _ z3)).trans z3⟩

set_option maxRecDepth 100000 in
set_option maxHeartbeats 2000000 in
theorem noChess_any (w : World) : Calls Tryd.prog 11 #[.agg (chA none 0 0 0 0 0 0 0)] w fun r w' => r = .returned (.bool true) ∧ Below w.heap.size w w' := by
  obtain ⟨w1, hw1⟩ : ∃ w1, w.alloc (.cells (chA none 0 0 0 0 0 0 0) 24) = w1 := ⟨_, rfl⟩
  have HB1 : Hid (Below w.heap.size w w1) := hide (by rw [← hw1]; exact (Below.refl _ w).alloc (Nat.le_refl _) _)
  have C1 : Ch w1 w.heap.size none 0 0 0 0 0 0 0 := by rw [← hw1]; exact Ch.new w _ _ _ _ _ _ _ _
  obtain ⟨x0, x1, x2, x3, x4, x5⟩ := C1.cells
  clear C1
  go_enter Tryd.func11, Tryd.ntmps11
  go_upto_region 1 with fail
  clear hw1
  go_wp2_with fail
  go_ret
  exact ⟨rfl, HB1.out⟩

set_option maxRecDepth 100000 in
set_option maxHeartbeats 4000000 in
theorem SameChess_yes (a b : Option Addr) (n c d : Nat) (Z : List Int) (t k e h f : Int) (w : World) (hx : Rd w a n c Z) (hy : Rd w b n d Z) :
    Calls Tryd.prog 16 #[.agg (chA a n c t k e h f), .agg (chA b n d t k e h f)] w fun r w' => r = .returned (.bool true) ∧ Below w.heap.size w w' := by
  obtain ⟨w1, hw1⟩ : ∃ w1, (w.alloc (.cells (chA a n c t k e h f) 24)).alloc (.cells (chA b n d t k e h f) 24) = w1 := ⟨_, rfl⟩
  have B1 : Below w.heap.size w w1 := by rw [← hw1]; exact ((Below.refl _ w).alloc (Nat.le_refl _) _).alloc (by simp) _
  have C1 : Ch w1 w.heap.size a n c t k e h f := by rw [← hw1]; exact (Ch.new w a n c t k e h f).old _
  have C2 : Ch w1 (w.heap.size + 1) b n d t k e h f := by
    rw [← hw1]
    have := Ch.new (w.alloc (.cells (chA a n c t k e h f) 24)) b n d t k e h f
    rw [World.size_alloc] at this
    exact this
  have HSI := hide (sameIntsL_any a b n c n d Z Z w1 (hx.mono B1) (hy.mono B1))
  rw [decide_eq_true rfl] at HSI
  have HB1 := hide B1
  have HC1 : Hid (∀ W, Below w1.heap.size w1 W → Ch W w.heap.size a n c t k e h f) := hide (fun W hb => C1.below hb C1.lt)
  have HC2 : Hid (∀ W, Below w1.heap.size w1 W → Ch W (w.heap.size + 1) b n d t k e h f) := hide (fun W hb => C2.below hb C2.lt)
  obtain ⟨x0, -, -, -, -, -⟩ := C1.cells
  obtain ⟨y0, -, -, -, -, -⟩ := C2.cells
  clear B1 C1 C2 hx hy
  go_enter Tryd.func16, Tryd.ntmps16
  go_upto_region 1 with fail
  clear hw1
  go_wp2_with fail
  refine HSI.out.mono ?_
  rintro r w2 ⟨rfl, q, hq⟩
  have HB2 : Hid (Below w1.heap.size w1 w2) := hide (by rw [hq]; exact drewN_below _ _ _)
  clear hq x0 y0
  obtain ⟨-, x1, x2, x3, x4, x5⟩ := (HC1.out w2 HB2.out).cells
  obtain ⟨-, y1, y2, y3, y4, y5⟩ := (HC2.out w2 HB2.out).cells
  go_wp2_with fail
  go_ret
  exact ⟨by simp, HB1.out.trans (HB2.out.mono HB1.out.size)⟩

set_option maxRecDepth 100000 in
set_option maxHeartbeats 4000000 in
theorem MoveAt_any (ad : Option Addr) (n cp : Nat) (L : List (Nat × Nat × Nat)) (x y z : Int) (w : World) (hL : Rm3 w ad n cp L) :
    Calls Tryd.prog 15 #[.slice ad n cp, m3 x y z] w fun r w' => ∃ q : Int, r = .returned (.int .i64 q) ∧ (q < 0 ↔ hasB L x y z = false) ∧ Below w.heap.size w w' := by
  obtain ⟨g, hg⟩ : ∃ g, w.heap.size = g := ⟨_, rfl⟩
  obtain ⟨w1, hw1⟩ : ∃ w1, w.alloc (.cells #[.int .i64 x, .int .i64 y, .int .i64 z] 26) = w1 := ⟨_, rfl⟩
  have B1 : Below w.heap.size w w1 := by rw [← hw1]; exact (Below.refl _ w).alloc (Nat.le_refl _) _
  have V1 : Vb w1 g 26 [.int .i64 x, .int .i64 y, .int .i64 z] := by rw [← hw1, ← hg]; exact Vb.new w 26 _
  have HB1 := hide B1
  have HVM : Hid (∀ W, Below w1.heap.size w1 W → Vb W g 26 [.int .i64 x, .int .i64 y, .int .i64 z]) := hide (fun W hb => V1.mono hb)
  have HAT := hide hL.at_
  have hlen := hide hL.len
  have hcp := hL.cap
  have hmx := hL.max
  have HG := hide hg
  clear B1 V1 hL
  go_enter Tryd.func15, Tryd.ntmps15
  go_upto_region 1 with fail
  try rw [hg]
  clear hw1 hg
  go_wp2_with fail
  go_loopw [5] (fun v wr => ∃ i : Nat, v = .int .i64 i ∧ i ≤ n ∧ Hid (hasB (L.take i) x y z = false) ∧ Hid (Below w1.heap.size w1 wr)) (fun v _ => n - (intOf v).toNat)
  case atStart => exact ⟨0, rfl, by omega, hide rfl, hide (Below.refl _ _)⟩
  case round =>
    obtain ⟨i, rfl, hi, hno, hb⟩ := hrel
    by_cases hlt : i < n
    · have hlt' : (i : Int) < (n : Int) := by omega
      obtain ⟨m, hm⟩ : ∃ m, L[i]? = some m := ⟨L[i]'(by rw [hlen.out]; exact hlt), List.getElem?_eq_getElem _⟩
      obtain ⟨mb, rfl, hc⟩ := HAT.out (by omega)
      have HBX : Hid (∀ W, Below w1.heap.size w1 W → Below w.heap.size w W) := hide (fun W hW => HB1.out.trans (hW.mono HB1.out.size))
      have HCM : Hid (∀ W, Below w1.heap.size w1 W → W.cell? ⟨mb, i * 3, none⟩ = some (.int .i64 (m.1 : Nat)) ∧ W.cell? ⟨mb, i * 3 + 1, none⟩ = some (.int .i64 (m.2.1 : Nat)) ∧ W.cell? ⟨mb, i * 3 + 2, none⟩ = some (.int .i64 (m.2.2 : Nat))) := hide (fun W hW => hc W (HBX.out W hW) i m hm)
      have HS : Hid (hasB (L.take (i + 1)) x y z = eq3 (m.1 : Nat) (m.2.1 : Nat) (m.2.2 : Nat) x y z) := hide (by rw [List.take_add_one, hm]; show hasB (L.take i ++ [m]) x y z = _; rw [hasB_snoc, hno.out, Bool.false_or])
      have HY : Hid (eq3 (m.1 : Nat) (m.2.1 : Nat) (m.2.2 : Nat) x y z = true → hasB L x y z = true) := hide (fun he => by
        unfold hasB
        rw [List.any_eq_true]
        exact ⟨m, List.mem_of_getElem? hm, he⟩)
      obtain ⟨eb, heb⟩ : ∃ eb, eq3 (m.1 : Nat) (m.2.1 : Nat) (m.2.2 : Nat) x y z = eb := ⟨_, rfl⟩
      have HEB := hide heb
      rw [heb] at HS HY
      clear hm hc heb hno
      go_upto_region 4 with fail
      refine wp_region_held (S := fun W5 => Below w1.heap.size w1 W5) (by kernel_rfl) ?_
      change wpAnyH _ _ _ _ _ _ _ _ (World.drew _)
      have SW : (fun W5 => Below w1.heap.size w1 W5) wr.drew := hb.out.trans (drewN_below _ _ 1)
      generalize wr.drew = wd at *
      refine wpAnyH_take (i := 0) (v := .slice (some ⟨mb, 0, none⟩) n cp) rfl (by kernel_rfl) (by kernel_rfl) (by kernel_rfl) (fun _ _ _ h => h) (Or.inl ⟨by rfl, ?_⟩) SW ?_
      · intro W5 hW5
        go_simp <;> first | done | rfl | (rw [IntKind.wrap_i64]; omega) | omega
      go_simp
      refine wpAnyH_take (i := 1) (v := .int .i64 (i : Nat)) rfl (by kernel_rfl) (by kernel_rfl) (by kernel_rfl) (fun _ _ _ h => h) (Or.inl ⟨by rfl, ?_⟩) SW ?_
      · intro W5 hW5
        go_simp <;> first | done | rfl | (rw [IntKind.wrap_i64]; omega) | omega
      go_simp
      refine wpAnyH_take (i := 2) (v := .pointer (some ⟨mb, i * 3, none⟩)) rfl (by kernel_rfl) (by kernel_rfl) (by kernel_rfl) (fun _ _ _ h => h) (Or.inl ⟨by rfl, ?_⟩) SW ?_
      · intro W5 hW5
        go_simp <;> first | done | rfl | (rw [IntKind.wrap_i64]; omega) | omega
      go_simp
      refine wpAnyH_take (i := 3) (v := .agg (mvC m).toArray) rfl (by kernel_rfl) (by kernel_rfl) (by kernel_rfl) (fun _ _ _ h => h) (Or.inl ⟨by rfl, ?_⟩) SW ?_
      · intro W5 hW5
        obtain ⟨y0, y1, y2⟩ := HCM.out W5 hW5
        go_simp <;> first | done | rfl | (rw [IntKind.wrap_i64]; omega) | omega
      go_simp
      refine wpAnyH_take (i := 4) (v := m3 x y z) rfl (by kernel_rfl) (by kernel_rfl) (by kernel_rfl) (fun _ _ _ h => h) (Or.inl ⟨by rfl, ?_⟩) SW ?_
      · intro W5 hW5
        have y0 := (HVM.out W5 hW5).cell (i := 0) rfl
        have y1 := (HVM.out W5 hW5).cell (i := 1) rfl
        have y2 := (HVM.out W5 hW5).cell (i := 2) rfl
        go_simp <;> first | done | rfl | (rw [IntKind.wrap_i64]; omega) | omega
      go_simp
      refine wpAnyH_take (i := 5) (v := .bool (eq3 (m.1 : Nat) (m.2.1 : Nat) (m.2.2 : Nat) x y z)) rfl (by kernel_rfl) (by kernel_rfl) (by kernel_rfl) (fun _ _ _ h => h) (yields_eq26 (by rfl) (.tmp 15) (.tmp 16) rfl (by rfl) (by rfl)) SW ?_
      go_simp
      refine wpAnyH_done (by kernel_rfl) ?_ _
      rw [HEB.out]
      have HBN : Hid (Below w1.heap.size w1 wd) := hide SW
      clear SW hb
      cases eb with
      | true =>
        go_wp2_with fail
        go_ret
        exact ⟨_, rfl, ⟨fun hh => absurd hh (by omega), fun hh => by rw [HY.out (by first | rfl | trivial)] at hh; exact absurd hh (by decide)⟩, HBX.out _ HBN.out⟩
      | false =>
        go_wp2_with fail
        exact ⟨⟨i + 1, by go_num, by omega, HS, HBN⟩, by simp [intOf]; omega⟩
    · obtain rfl : i = n := by omega
      have HF : Hid (hasB L x y z = false) := hide (by rw [← hno.out, List.take_of_length_le (by rw [hlen.out]; exact Nat.le_refl _)])
      go_wp2_with fail
      go_ret
      exact ⟨_, rfl, ⟨fun _ => HF.out, fun _ => by decide⟩, HB1.out.trans (hb.out.mono HB1.out.size)⟩

set_option maxRecDepth 100000 in
set_option maxHeartbeats 4000000 in
theorem sameMoves_yes (ad ad' : Option Addr) (n cp cp' : Nat) (L : List (Nat × Nat × Nat)) (w : World) (hL : Rm3 w ad n cp L) (hL' : Rm3 w ad' n cp' L) :
    Calls Tryd.prog 13 #[.slice ad n cp, .slice ad' n cp'] w fun r w' => r = .returned (.bool true) ∧ Below w.heap.size w w' := by
  have HAT := hide hL.at_
  have HAT' := hide hL'.at_
  have hlen := hide hL.len
  have hcp := hL.cap
  have hmx := hL.max
  have hcp' := hL'.cap
  have hmx' := hL'.max
  clear hL hL'
  go_enter Tryd.func13, Tryd.ntmps13
  go_wp2_with fail
  go_loopw [5] (fun v wr => ∃ i : Nat, v = .int .i64 i ∧ i ≤ n ∧ Hid (Below w.heap.size w wr)) (fun v _ => n - (intOf v).toNat)
  case atStart => exact ⟨0, rfl, by omega, hide (Below.refl _ _)⟩
  case round =>
    obtain ⟨i, rfl, hi, hb⟩ := hrel
    by_cases hlt : i < n
    · have hlt' : (i : Int) < (n : Int) := by omega
      obtain ⟨m, hm⟩ : ∃ m, L[i]? = some m := ⟨L[i]'(by rw [hlen.out]; exact hlt), List.getElem?_eq_getElem _⟩
      obtain ⟨mb, rfl, hc⟩ := HAT.out (by omega)
      obtain ⟨mb', rfl, hc'⟩ := HAT'.out (by omega)
      have HCM := hide (fun W hW => hc W hW i m hm)
      have HCM' := hide (fun W hW => hc' W hW i m hm)
      clear hm hc hc'
      go_upto_region 6 with fail
      refine wp_region_held (S := fun W5 => Below w.heap.size w W5) (by kernel_rfl) ?_
      change wpAnyH _ _ _ _ _ _ _ _ (World.drew _)
      have SW : (fun W5 => Below w.heap.size w W5) wr.drew := hb.out.trans (drewN_below _ _ 1)
      generalize wr.drew = wd at *
      refine wpAnyH_take (i := 0) (v := .slice (some ⟨mb, 0, none⟩) n cp) rfl (by kernel_rfl) (by kernel_rfl) (by kernel_rfl) (fun _ _ _ h => h) (Or.inl ⟨by rfl, ?_⟩) SW ?_
      · intro W5 hW5
        go_simp <;> first | done | rfl | (rw [IntKind.wrap_i64]; omega) | omega
      go_simp
      refine wpAnyH_take (i := 1) (v := .int .i64 (i : Nat)) rfl (by kernel_rfl) (by kernel_rfl) (by kernel_rfl) (fun _ _ _ h => h) (Or.inl ⟨by rfl, ?_⟩) SW ?_
      · intro W5 hW5
        go_simp <;> first | done | rfl | (rw [IntKind.wrap_i64]; omega) | omega
      go_simp
      refine wpAnyH_take (i := 2) (v := .pointer (some ⟨mb, i * 3, none⟩)) rfl (by kernel_rfl) (by kernel_rfl) (by kernel_rfl) (fun _ _ _ h => h) (Or.inl ⟨by rfl, ?_⟩) SW ?_
      · intro W5 hW5
        go_simp <;> first | done | rfl | (rw [IntKind.wrap_i64]; omega) | omega
      go_simp
      refine wpAnyH_take (i := 3) (v := .agg (mvC m).toArray) rfl (by kernel_rfl) (by kernel_rfl) (by kernel_rfl) (fun _ _ _ h => h) (Or.inl ⟨by rfl, ?_⟩) SW ?_
      · intro W5 hW5
        obtain ⟨y0, y1, y2⟩ := HCM.out W5 hW5
        go_simp <;> first | done | rfl | (rw [IntKind.wrap_i64]; omega) | omega
      go_simp
      refine wpAnyH_take (i := 4) (v := .slice (some ⟨mb', 0, none⟩) n cp') rfl (by kernel_rfl) (by kernel_rfl) (by kernel_rfl) (fun _ _ _ h => h) (Or.inl ⟨by rfl, ?_⟩) SW ?_
      · intro W5 hW5
        go_simp <;> first | done | rfl | (rw [IntKind.wrap_i64]; omega) | omega
      go_simp
      refine wpAnyH_take (i := 5) (v := .int .i64 (i : Nat)) rfl (by kernel_rfl) (by kernel_rfl) (by kernel_rfl) (fun _ _ _ h => h) (Or.inl ⟨by rfl, ?_⟩) SW ?_
      · intro W5 hW5
        go_simp <;> first | done | rfl | (rw [IntKind.wrap_i64]; omega) | omega
      go_simp
      refine wpAnyH_take (i := 6) (v := .pointer (some ⟨mb', i * 3, none⟩)) rfl (by kernel_rfl) (by kernel_rfl) (by kernel_rfl) (fun _ _ _ h => h) (Or.inl ⟨by rfl, ?_⟩) SW ?_
      · intro W5 hW5
        go_simp <;> first | done | rfl | (rw [IntKind.wrap_i64]; omega) | omega
      go_simp
      refine wpAnyH_take (i := 7) (v := .agg (mvC m).toArray) rfl (by kernel_rfl) (by kernel_rfl) (by kernel_rfl) (fun _ _ _ h => h) (Or.inl ⟨by rfl, ?_⟩) SW ?_
      · intro W5 hW5
        obtain ⟨y0, y1, y2⟩ := HCM'.out W5 hW5
        go_simp <;> first | done | rfl | (rw [IntKind.wrap_i64]; omega) | omega
      go_simp
      refine wpAnyH_take (i := 8) (v := .bool (!(eq3 (m.1 : Nat) (m.2.1 : Nat) (m.2.2 : Nat) (m.1 : Nat) (m.2.1 : Nat) (m.2.2 : Nat)))) rfl (by kernel_rfl) (by kernel_rfl) (by kernel_rfl) (fun _ _ _ h => h) (yields_neq26 (by rfl) (.tmp 20) (.tmp 24) rfl (by rfl) (by rfl)) SW ?_
      go_simp
      refine wpAnyH_done (by kernel_rfl) ?_ _
      rw [eq3_self]
      have HBN : Hid (Below w.heap.size w wd) := hide SW
      clear SW hb
      go_wp2_with fail
      exact ⟨⟨i + 1, by go_num, by omega, HBN⟩, by simp [intOf]; omega⟩
    · obtain rfl : i = n := by omega
      go_wp2_with fail
      go_ret
      exact ⟨rfl, hb.out⟩

theorem ckP_atL {p : Ps} (hM : MayP p) : ckP p = decide (atL p.Z (kf p.Z p.t) (1 - p.t) ≠ []) := by
  unfold ckP
  have ht := hM.t1
  have hb : 1 - p.t = 0 ∨ 1 - p.t = 1 := by omega
  rw [decide_eq_decide]
  exact not_congr (atk_nil hM.st.pz (kf_kg hM.st p.t).1 hb)

attribute [local irreducible] mvs tl mS ckP atL

set_option maxRecDepth 100000 in
set_option maxHeartbeats 8000000 in
theorem ResultOf_any (a : Option Addr) (c : Nat) (p : Ps) (hM : MayP p) (w : World) (hR : Rd w a 64 c p.Z) :
    Calls Tryd.prog 14 #[.agg (chP a c p)] w fun r w' => r = .returned (.int .i64 (resP p)) ∧ Below w.heap.size w w' := by
  obtain ⟨g, hg⟩ : ∃ g, w.heap.size = g := ⟨_, rfl⟩
  obtain ⟨w1, hw1⟩ : ∃ w1, w.alloc (.cells (chP a c p) 24) = w1 := ⟨_, rfl⟩
  have B1 : Below w.heap.size w w1 := by rw [← hw1]; exact (Below.refl _ w).alloc (Nat.le_refl _) _
  have C1 : Ch w1 g a 64 c (p.t : Nat) (p.k : Nat) p.e (p.h : Nat) (p.f : Nat) := by rw [← hw1, ← hg]; exact Ch.new w a 64 c _ _ _ _ _
  have hR1 := hR.mono B1
  have HMA := hide (MovesAll_any a c p hM w1 hR1)
  have HCH : Hid (∀ W, Below w1.heap.size w1 W → Ch W g a 64 c (p.t : Nat) (p.k : Nat) p.e (p.h : Nat) (p.f : Nat)) := hide (fun W hb => C1.below hb C1.lt)
  have HIC : Hid (∀ W, Below w1.heap.size w1 W → Calls Tryd.prog 36 #[.slice a 64 c, .int .i64 (p.t : Nat)] W fun r w' => r = .returned (.bool (ckP p)) ∧ Below W.heap.size W w') := hide (fun W hb => by
    rw [ckP_atL hM]
    exact InCheckR_any a c p.Z p.t _ hM.t1 (kf_kg hM.st p.t).fst hM.st.pz W (hR1.mono hb))
  have HMT : Hid (∀ W, Below w1.heap.size w1 W → Calls Tryd.prog 40 #[.agg (chP a c p)] W fun r w' => r = .returned (.tuple #[.int .i64 (mS p.Z 64), .bool (tl p.Z)]) ∧ Below W.heap.size W w') := hide (fun W hb => MaterialOf_any a c p.Z _ _ _ _ _ hM.st.pz W (hR1.mono hb))
  obtain ⟨res, hres⟩ : ∃ res, resP p = res := ⟨_, rfl⟩
  have HRS : Hid ((if (mvs p).isEmpty = true then (if ckP p = true then (1 : Int) else 2) else if tl p.Z = true then 3 else if 100 ≤ p.h then 4 else 0) = res) := hide (by rw [← hres]; rfl)
  rw [hres]
  obtain ⟨N, hN⟩ : ∃ N, (mvs p).length = N := ⟨_, rfl⟩
  have HNE : Hid ((mvs p).isEmpty = decide (N = 0)) := hide (by rw [← hN]; cases mvs p <;> simp)
  rw [HNE.out] at HRS
  rw [hN] at HMA
  generalize ckP p = cb at *
  generalize tl p.Z = tb at *
  generalize mS p.Z 64 = ms at *
  have HB1 := hide B1
  clear B1 hR hR1 hM hN HNE hres
  go_enter Tryd.func14, Tryd.ntmps14
  go_upto_region 1 with fail
  try rw [hg]
  have HG := hide hg
  clear hw1 hg
  go_wp2_with (refine wpList_load_ch rfl (.tmp 1) rfl g rfl C1 ?_)
  refine HMA.out.mono ?_
  rintro r w2 ⟨ad, cp, rfl, -, hb2⟩
  have HB2 : Hid (Below w1.heap.size w1 w2) := hide hb2
  clear hb2 C1 HMA
  by_cases h0 : N = 0
  · subst h0
    obtain ⟨x0, x1, -, -, -, -⟩ := (HCH.out w2 HB2.out).cells
    go_wp2_with fail
    refine (HIC.out w2 HB2.out).mono ?_
    rintro r w3 ⟨rfl, hb3⟩
    have HB3 : Hid (Below w1.heap.size w1 w3) := hide (HB2.out.trans (hb3.mono HB2.out.size))
    clear hb3 x0 x1
    cases cb with
    | true =>
      have HR : Hid ((1 : Int) = res) := hide (by simpa using HRS.out)
      go_wp2_with fail
      go_ret
      exact ⟨by first | rfl | (rw [← HR.out]; rfl), HB1.out.trans (HB3.out.mono HB1.out.size)⟩
    | false =>
      have HR : Hid ((2 : Int) = res) := hide (by simpa using HRS.out)
      go_wp2_with fail
      go_ret
      exact ⟨by first | rfl | (rw [← HR.out]; rfl), HB1.out.trans (HB3.out.mono HB1.out.size)⟩
  · have h0b : ((N : Int) == 0) = false := by rw [beq_eq_false_iff_ne]; omega
    rw [decide_eq_false h0] at HRS
    clear h0
    have C2 := HCH.out w2 HB2.out
    go_wp2_with (refine wpList_load_ch rfl (.tmp 1) rfl g rfl C2 ?_)
    refine (HMT.out w2 HB2.out).mono ?_
    rintro r w3 ⟨rfl, hb3⟩
    have HB3 : Hid (Below w1.heap.size w1 w3) := hide (HB2.out.trans (hb3.mono HB2.out.size))
    clear hb3 C2
    obtain ⟨-, -, -, -, y4, -⟩ := (HCH.out w3 HB3.out).cells
    cases tb with
    | true =>
      have HR : Hid ((3 : Int) = res) := hide (by simpa using HRS.out)
      go_wp2_with fail
      go_ret
      exact ⟨by first | rfl | (rw [← HR.out]; rfl), HB1.out.trans (HB3.out.mono HB1.out.size)⟩
    | false =>
      by_cases hh : 100 ≤ p.h
      · have hb : ((p.h : Nat) : Int) ≥ 100 := by omega
        have HR : Hid ((4 : Int) = res) := hide (by simpa [hh] using HRS.out)
        go_wp2_with fail
        go_ret
        exact ⟨by first | rfl | (rw [← HR.out]; rfl), HB1.out.trans (HB3.out.mono HB1.out.size)⟩
      · have hb : ¬ ((p.h : Nat) : Int) ≥ 100 := by omega
        have HR : Hid ((0 : Int) = res) := hide (by simpa [hh] using HRS.out)
        go_wp2_with fail
        go_ret
        exact ⟨by first | rfl | (rw [← HR.out]; rfl), HB1.out.trans (HB3.out.mono HB1.out.size)⟩

end Go.Proofs.YtbhlafdfpoacjaaDoor
