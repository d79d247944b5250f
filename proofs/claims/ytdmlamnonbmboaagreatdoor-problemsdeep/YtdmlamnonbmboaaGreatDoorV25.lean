/-
  Chess: where the king comes to by castling, walked. No conditions beyond those that each theorem bears.
-/
import Derived.Test.YtdmlamnonbmboaaGreatDoorV24
namespace Go.Proofs.YtdmlamnonbmboaaGreatDoor
open Go.RowKit Go.Shelf

theorem wrap_eq (x : Int) : IntKind.i64.wrap x = wrap64 x := by rw [IntKind.wrap_i64]; unfold wrap64; omega

def drC (i : Nat) : Int := [1, -1, 1, -1].getD i 0
theorem bw_cas {i : Nat} (hi : i < 4) : Bw (kgP i) (rkP i) (cOv i) (drC i) (cBt i) ∧ ((kgP i : Nat) : Int) + 2 * drC i = ((cTo i : Nat) : Int) := by
  match i, hi with
  | 0, _ => exact ⟨⟨by decide, by decide, by decide, by decide, by decide, by decide, by decide, by decide, by decide⟩, by decide⟩
  | 1, _ => exact ⟨⟨by decide, by decide, by decide, by decide, by decide, by decide, by decide, by decide, by decide⟩, by decide⟩
  | 2, _ => exact ⟨⟨by decide, by decide, by decide, by decide, by decide, by decide, by decide, by decide, by decide⟩, by decide⟩
  | 3, _ => exact ⟨⟨by decide, by decide, by decide, by decide, by decide, by decide, by decide, by decide, by decide⟩, by decide⟩

/-- The set of the first castlings' places. -/
def cmS (Z : List Int) (t : Nat) (k : Int) : Nat → Nat
  | 0 => 0
  | i + 1 => cmS Z t k i ||| (if csB Z t k i = true then 2 ^ cTo i else 0)
theorem cmS_bit (Z : List Int) (t : Nat) (k : Int) : ∀ n j, (cmS Z t k n).testBit j = (List.range n).any fun i => csB Z t k i && j == cTo i
  | 0, j => by simp [cmS]
  | n + 1, j => by
    rw [cmS, Nat.testBit_or, cmS_bit Z t k n j, List.range_succ, List.any_append]
    congr 1
    by_cases hc : csB Z t k n = true
    · rw [if_pos hc, Nat.testBit_two_pow]
      by_cases e : cTo n = j
      · subst e; simp [hc]
      · simp [hc, e, Ne.symm e]
    · rw [if_neg hc]
      have : csB Z t k n = false := by simpa using hc
      simp [this]
theorem cmS_lt (Z : List Int) (t : Nat) (k : Int) : ∀ n, n ≤ 4 → cmS Z t k n < 2 ^ 64
  | 0, _ => by rw [cmS]; decide
  | n + 1, hn => by
    rw [cmS]
    refine Nat.or_lt_two_pow (cmS_lt Z t k n (by omega)) ?_
    split
    · exact Nat.pow_lt_pow_right (by omega) (cas_pl (show n < 4 by omega)).2.2.2.1
    · decide
theorem cmS_all (Z : List Int) (t : Nat) (k : Int) : cmS Z t k 4 = msk (casB Z t k) 64 := msk_ext (cmS_lt Z t k 4 (by omega)) (fun j _ => cmS_bit Z t k 4 j)

attribute [local irreducible] cT sdP kgP rkP cTo cOv cBt bitB atk

set_option maxRecDepth 100000 in
set_option maxHeartbeats 8000000 in
theorem castles_any (b : Nat) (Z : List Int) (t kn : Nat) (e h f : Int) (ht : t ≤ 1) (hkn : kn ≤ 15) (w : World) (hs : Sb w b Z (t : Nat) (kn : Nat) e h f) (hT : TabS w) :
    Calls Tryz.prog 117 #[.pointer (some ⟨b, 0, none⟩)] w fun r w' => r = .returned (.int .u64 (msk (casB Z t kn) 64 : Nat)) ∧ Below w.heap.size w w' := by
  rw [← cmS_all]
  have HSU : Hid (∀ i, cmS Z t kn (i + 1) = cmS Z t kn i ||| (if csB Z t kn i = true then 2 ^ cTo i else 0)) := hide (fun i => rfl)
  have HM0 : Hid (cmS Z t kn 0 = 0) := hide rfl
  have HML : Hid (∀ i, i ≤ 4 → cmS Z t kn i < 18446744073709551616) := hide (fun i hi => by have := cmS_lt Z t kn i hi; rwa [p64] at this)
  have HBA := hide (fun i (hi : i < 4) => bit_and (k := kn) (i := i) hkn hi)
  have HSW : Hid (∀ W, Below w.heap.size w W → Sb W b Z (t : Nat) (kn : Nat) e h f ∧ TabS W) := hide (fun W hb => ⟨hs.mono hb, hT.mono hb⟩)
  have HCS : Hid (∀ i, csB Z t kn i = (sdP i == t && bitB kn i && ((cBt i).all (fun p => zg Z p == 0) && decide (atk Z (kgP i) (1 - t) = []) && decide (atk Z (cOv i) (1 - t) = []) && decide (atk Z (cTo i) (1 - t) = [])))) := hide (fun i => by
    unfold csB
    cases sdP i == t <;> cases bitB kn i <;> simp)
  have HMCA : Hid (∀ i, i < 4 → ∀ W, Sb W b Z (t : Nat) (kn : Nat) e h f ∧ TabS W → Calls Tryz.prog 142 #[.pointer (some ⟨b, 0, none⟩), .agg #[.int .i64 (sdP i : Nat), .int .i64 (kgP i : Nat), .int .i64 (rkP i : Nat)]] W fun r w' => r = .returned (.bool ((cBt i).all (fun p => zg Z p == 0) && decide (atk Z (kgP i) (1 - t) = []) && decide (atk Z (cOv i) (1 - t) = []) && decide (atk Z (cTo i) (1 - t) = []))) ∧ Below W.heap.size W w') := hide (fun i hi W hW => mayCastleS_any b Z t kn e h f ht (sdP i) (kgP i) (rkP i) (cOv i) (cTo i) (drC i) (cBt i) (bw_cas hi).1 (bw_cas hi).2 (cas_pl hi).2.1 (cas_pl hi).2.2.2.1 W hW.1 hW.2)
  have HTOA : Hid (∀ i, i < 4 → ∀ W, Calls Tryz.prog 106 #[.agg #[.int .i64 (sdP i : Nat), .int .i64 (kgP i : Nat), .int .i64 (rkP i : Nat)]] W fun r w' => r = .returned (.int .i64 (cTo i : Nat)) ∧ Below W.heap.size W w') := hide (fun i hi W => to_any (sdP i) (kgP i) (rkP i) (cTo i) (drC i) (bw_cas hi).1.dd (bw_cas hi).2 (bw_cas hi).1.k64 W)
  have HT64 : Hid (∀ i, i < 4 → cTo i < 64) := hide (fun i hi => (cas_pl hi).2.2.2.1)
  have HJA := hide just_any
  clear hs hT
  go_enter Tryz.func117, Tryz.ntmps117
  go_wp2_with fail
  refine (castlings_any _).mono ?_
  rintro r w1 ⟨rfl, hb1⟩
  have HB1 := hide hb1
  have HSB : Hid (∀ W, Below w1.heap.size w1 W → Sb W b Z (t : Nat) (kn : Nat) e h f ∧ TabS W) := hide (fun W hb => HSW.out W (HB1.out.trans (hb.mono HB1.out.size)))
  clear hb1 HSW
  go_wp2_with fail
  go_loopw [3, 7] (fun u v wr => ∃ i : Nat, v = .int .i64 i ∧ i ≤ 4 ∧ u = .int .u64 (cmS Z t kn i : Nat) ∧ Hid (Below w1.heap.size w1 wr)) (fun _ v _ => 4 - (intOf v).toNat)
  case atStart => exact ⟨0, rfl, by omega, by rw [HM0.out]; rfl, hide (Below.refl _ _)⟩
  case round =>
    obtain ⟨i, rfl, hi, rfl, hbl⟩ := hrel
    by_cases hlt : i < 4
    · have hlt' : (i : Int) < 4 := by omega
      have hidx := run_cas i hlt
      have HSI := hide (HSU.out i)
      have hm := HML.out i (by omega)
      have hba := HBA.out i hlt
      have HCI := hide (HCS.out i)
      have HMI := hide (HMCA.out i hlt)
      have HTI := hide (HTOA.out i hlt)
      have h64 := HT64.out i hlt
      have hp := pow_lt64 h64
      have HJI := hide (HJA.out (cTo i) h64)
      have hor : bits BinOp.or .u64 ((cmS Z t kn i : Nat) : Int) ((2 ^ cTo i : Nat) : Int) = ((cmS Z t kn i ||| 2 ^ cTo i : Nat) : Int) := u64_or_nat _ _ hm hp
      generalize ((cBt i).all (fun p => zg Z p == 0) && decide (atk Z (kgP i) (1 - t) = []) && decide (atk Z (cOv i) (1 - t) = []) && decide (atk Z (cTo i) (1 - t) = [])) = mc at *
      generalize cmS Z t kn i = cm at *
      generalize csB Z t kn i = cs at *
      generalize sdP i = si at *
      generalize kgP i = ki at *
      generalize rkP i = ri at *
      generalize 2 ^ cTo i = pt at *
      generalize cTo i = ct at *
      obtain ⟨w2, hw2⟩ : ∃ w2, wr.alloc (.cells #[.int .i64 (si : Nat), .int .i64 (ki : Nat), .int .i64 (ri : Nat)] 106) = w2 := ⟨_, rfl⟩
      have B2 : Below w1.heap.size w1 w2 := by rw [← hw2]; exact hbl.out.alloc hbl.out.size _
      have C2 : Vb w2 wr.heap.size 106 [.int .i64 (si : Nat), .int .i64 (ki : Nat), .int .i64 (ri : Nat)] := by rw [← hw2]; exact Vb.new wr 106 _
      have HBW := hide B2
      have HC2 : Hid (∀ W, Below w2.heap.size w2 W → Vb W wr.heap.size 106 [.int .i64 (si : Nat), .int .i64 (ki : Nat), .int .i64 (ri : Nat)]) := hide (fun W hb => C2.mono hb)
      have HMC : Hid (∀ W, Below w1.heap.size w1 W → Calls Tryz.prog 142 #[.pointer (some ⟨b, 0, none⟩), .agg #[.int .i64 (si : Nat), .int .i64 (ki : Nat), .int .i64 (ri : Nat)]] W fun r w' => r = .returned (.bool mc) ∧ Below W.heap.size W w') := hide (fun W hb => HMI.out W (HSB.out W hb))
      clear B2 C2 hbl
      go_upto_region 5 with fail
      clear hw2 hidx
      by_cases hsi : si = t
      · subst hsi
        obtain ⟨bv, hbv⟩ : ∃ bv, bits BinOp.and IntKind.i64 (kn : Int) (wrap64 (2 ^ i)) = bv := ⟨_, rfl⟩
        rw [hbv] at hba
        cases hbb : bitB kn i with
        | false =>
          rw [hbb] at hba HCI
          have hb0 : (bv == 0) = true := by rw [hba]; rfl
          have hbn : (bv != 0) = false := by rw [bne, hb0]; rfl
          have HE : Hid (cmS Z si kn (i + 1) = cm) := hide (by rw [HSI.out, if_neg (by rw [HCI.out]; simp), Nat.or_zero])
          clear hba hbb HSI HCI
          refine wp_region_held (S := fun W5 => Below w2.heap.size w2 W5) (by kernel_rfl) ?_
          change wpAnyH _ _ _ _ _ _ _ _ (World.drew _)
          have SW : Below w2.heap.size w2 w2.drew := (Below.refl _ _).drew
          refine wpAnyH_take (i := 0) (v := .pointer (some ⟨wr.heap.size, 0, none⟩)) rfl (by kernel_rfl) (by kernel_rfl) (by kernel_rfl) (fun _ _ _ h => h) (Or.inl ⟨by rfl, ?_⟩) SW ?_
          · intro W5 hW5
            go_simp <;> first | done | rfl | (rw [IntKind.wrap_i64]; omega) | omega
          go_simp
          refine wpAnyH_take (i := 1) (v := .int .i64 (si : Nat)) rfl (by kernel_rfl) (by kernel_rfl) (by kernel_rfl) (fun _ _ _ h => h) (Or.inl ⟨by rfl, ?_⟩) SW ?_
          · intro W5 hW5
            have x0 := (HC2.out W5 hW5).cell (i := 0) rfl
            go_simp <;> first | done | rfl | (rw [IntKind.wrap_i64]; omega) | omega
          go_simp
          refine wpAnyH_take (i := 2) (v := .pointer (some ⟨b, 0, none⟩)) rfl (by kernel_rfl) (by kernel_rfl) (by kernel_rfl) (fun _ _ _ h => h) (Or.inl ⟨by rfl, ?_⟩) SW ?_
          · intro W5 hW5
            go_simp <;> first | done | rfl | (rw [IntKind.wrap_i64]; omega) | omega
          go_simp
          refine wpAnyH_take (i := 3) (v := .pointer (some ⟨b, 0, none⟩)) rfl (by kernel_rfl) (by kernel_rfl) (by kernel_rfl) (fun _ _ _ h => h) (Or.inl ⟨by rfl, ?_⟩) SW ?_
          · intro W5 hW5
            go_simp <;> first | done | rfl | (rw [IntKind.wrap_i64]; omega) | omega
          go_simp
          refine wpAnyH_take (i := 4) (v := .pointer (some ⟨b, 64, none⟩)) rfl (by kernel_rfl) (by kernel_rfl) (by kernel_rfl) (fun _ _ _ h => h) (Or.inl ⟨by rfl, ?_⟩) SW ?_
          · intro W5 hW5
            go_simp <;> first | done | rfl | (rw [IntKind.wrap_i64]; omega) | omega
          go_simp
          refine wpAnyH_take (i := 5) (v := .int .i64 (si : Nat)) rfl (by kernel_rfl) (by kernel_rfl) (by kernel_rfl) (fun _ _ _ h => h) (Or.inl ⟨by rfl, ?_⟩) SW ?_
          · intro W5 hW5
            have x64 := (HSB.out W5 (HBW.out.trans (hW5.mono HBW.out.size))).1.ends.1
            go_simp <;> first | done | rfl | (rw [IntKind.wrap_i64]; omega) | omega
          go_simp
          refine wpAnyH_take (i := 6) (v := .bool true) rfl (by kernel_rfl) (by kernel_rfl) (by kernel_rfl) (fun _ _ _ h => h) (Or.inl ⟨by rfl, ?_⟩) SW ?_
          · intro W5 hW5
            go_simp <;> first | done | rfl | (rw [IntKind.wrap_i64]; omega) | omega
          go_simp
          refine wpAnyH_take (i := 7) (v := .bool true) rfl (by kernel_rfl) (by kernel_rfl) (by kernel_rfl) (fun _ _ _ h => h) (Or.inl ⟨by rfl, ?_⟩) SW ?_
          · intro W5 hW5
            go_simp <;> first | done | rfl | (rw [IntKind.wrap_i64]; omega) | omega
          go_simp
          refine wpAnyH_take (i := 8) (v := .pointer (some ⟨b, 0, none⟩)) rfl (by kernel_rfl) (by kernel_rfl) (by kernel_rfl) (fun _ _ _ h => h) (Or.inl ⟨by rfl, ?_⟩) SW ?_
          · intro W5 hW5
            go_simp <;> first | done | rfl | (rw [IntKind.wrap_i64]; omega) | omega
          go_simp
          refine wpAnyH_take (i := 9) (v := .pointer (some ⟨b, 0, none⟩)) rfl (by kernel_rfl) (by kernel_rfl) (by kernel_rfl) (fun _ _ _ h => h) (Or.inl ⟨by rfl, ?_⟩) SW ?_
          · intro W5 hW5
            go_simp <;> first | done | rfl | (rw [IntKind.wrap_i64]; omega) | omega
          go_simp
          refine wpAnyH_take (i := 10) (v := .pointer (some ⟨b, 65, none⟩)) rfl (by kernel_rfl) (by kernel_rfl) (by kernel_rfl) (fun _ _ _ h => h) (Or.inl ⟨by rfl, ?_⟩) SW ?_
          · intro W5 hW5
            go_simp <;> first | done | rfl | (rw [IntKind.wrap_i64]; omega) | omega
          go_simp
          refine wpAnyH_take (i := 11) (v := .int .i64 (kn : Nat)) rfl (by kernel_rfl) (by kernel_rfl) (by kernel_rfl) (fun _ _ _ h => h) (Or.inl ⟨by rfl, ?_⟩) SW ?_
          · intro W5 hW5
            have x65 := (HSB.out W5 (HBW.out.trans (hW5.mono HBW.out.size))).1.ends.2.1
            go_simp <;> first | done | rfl | (rw [IntKind.wrap_i64]; omega) | omega
          go_simp
          refine wpAnyH_take (i := 12) (v := .int .i64 (i : Nat)) rfl (by kernel_rfl) (by kernel_rfl) (by kernel_rfl) (fun _ _ _ h => h) (Or.inl ⟨by rfl, ?_⟩) SW ?_
          · intro W5 hW5
            go_simp <;> first | done | rfl | (rw [IntKind.wrap_i64]; omega) | omega
          go_simp
          refine wpAnyH_take (i := 13) (v := .int .i64 (wrap64 (2 ^ i))) rfl (by kernel_rfl) (by kernel_rfl) (by kernel_rfl) (fun _ _ _ h => h) (Or.inl ⟨by rfl, ?_⟩) SW ?_
          · intro W5 hW5
            go_simp <;> first | done | rfl | (rw [IntKind.wrap_i64]; omega) | omega | (rw [wrap_eq])
          go_simp
          refine wpAnyH_take (i := 14) (v := .int .i64 bv) rfl (by kernel_rfl) (by kernel_rfl) (by kernel_rfl) (fun _ _ _ h => h) (Or.inl ⟨by rfl, ?_⟩) SW ?_
          · intro W5 hW5
            go_simp <;> first | done | rfl | (rw [IntKind.wrap_i64]; omega) | omega
          go_simp
          refine wpAnyH_take (i := 15) (v := .bool false) rfl (by kernel_rfl) (by kernel_rfl) (by kernel_rfl) (fun _ _ _ h => h) (Or.inl ⟨by rfl, ?_⟩) SW ?_
          · intro W5 hW5
            go_simp <;> first | done | rfl | (rw [IntKind.wrap_i64]; omega) | omega
          go_simp
          refine wpAnyH_take (i := 16) (v := .bool false) rfl (by kernel_rfl) (by kernel_rfl) (by kernel_rfl) (fun _ _ _ h => h) (Or.inl ⟨by rfl, ?_⟩) SW ?_
          · intro W5 hW5
            go_simp <;> first | done | rfl | (rw [IntKind.wrap_i64]; omega) | omega
          go_simp
          refine wpAnyH_take (i := 17) (v := .bool false) rfl (by kernel_rfl) (by kernel_rfl) (by kernel_rfl) (fun _ _ _ h => h) (Or.inl ⟨by rfl, ?_⟩) SW ?_
          · intro W5 hW5
            go_simp <;> first | done | rfl | (rw [IntKind.wrap_i64]; omega) | omega
          go_simp
          refine wpAnyH_take (i := 18) (v := undef) rfl (by kernel_rfl) (by kernel_rfl) (by kernel_rfl) (fun _ _ _ h => h) (Or.inr ⟨by rfl, rfl⟩) SW ?_
          go_simp
          refine wpAnyH_take (i := 19) (v := undef) rfl (by kernel_rfl) (by kernel_rfl) (by kernel_rfl) (fun _ _ _ h => h) (Or.inr ⟨by rfl, rfl⟩) SW ?_
          go_simp
          refine wpAnyH_take (i := 20) (v := undef) rfl (by kernel_rfl) (by kernel_rfl) (by kernel_rfl) (fun _ _ _ h => h) (Or.inr ⟨by rfl, rfl⟩) SW ?_
          go_simp
          refine wpAnyH_take (i := 21) (v := .bool false) rfl (by kernel_rfl) (by kernel_rfl) (by kernel_rfl) (fun _ _ _ h => h) (Or.inl ⟨by rfl, ?_⟩) SW ?_
          · intro W5 hW5
            go_simp <;> first | done | rfl | (rw [IntKind.wrap_i64]; omega) | omega
          go_simp
          refine wpAnyH_done (by kernel_rfl) ?_ _
          have HBE : Hid (Below w1.heap.size w1 _) := hide (HBW.out.trans (SW.mono HBW.out.size))
          clear SW
          go_wp2_with fail
          exact ⟨⟨i + 1, by go_num, by omega, by rw [HE.out], HBE⟩, by simp [intOf]; omega⟩
        | true =>
          rw [hbb] at hba HCI
          have hb0 : (bv == 0) = false := by rw [hba]; rfl
          have hbn : (bv != 0) = true := by rw [bne, hb0]; rfl
          clear hba hbb
          refine wp_region_held (S := fun W5 => Below w2.heap.size w2 W5) (by kernel_rfl) ?_
          change wpAnyH _ _ _ _ _ _ _ _ (World.drew _)
          have SW : Below w2.heap.size w2 w2.drew := (Below.refl _ _).drew
          refine wpAnyH_take (i := 0) (v := .pointer (some ⟨wr.heap.size, 0, none⟩)) rfl (by kernel_rfl) (by kernel_rfl) (by kernel_rfl) (fun _ _ _ h => h) (Or.inl ⟨by rfl, ?_⟩) SW ?_
          · intro W5 hW5
            go_simp <;> first | done | rfl | (rw [IntKind.wrap_i64]; omega) | omega
          go_simp
          refine wpAnyH_take (i := 1) (v := .int .i64 (si : Nat)) rfl (by kernel_rfl) (by kernel_rfl) (by kernel_rfl) (fun _ _ _ h => h) (Or.inl ⟨by rfl, ?_⟩) SW ?_
          · intro W5 hW5
            have x0 := (HC2.out W5 hW5).cell (i := 0) rfl
            go_simp <;> first | done | rfl | (rw [IntKind.wrap_i64]; omega) | omega
          go_simp
          refine wpAnyH_take (i := 2) (v := .pointer (some ⟨b, 0, none⟩)) rfl (by kernel_rfl) (by kernel_rfl) (by kernel_rfl) (fun _ _ _ h => h) (Or.inl ⟨by rfl, ?_⟩) SW ?_
          · intro W5 hW5
            go_simp <;> first | done | rfl | (rw [IntKind.wrap_i64]; omega) | omega
          go_simp
          refine wpAnyH_take (i := 3) (v := .pointer (some ⟨b, 0, none⟩)) rfl (by kernel_rfl) (by kernel_rfl) (by kernel_rfl) (fun _ _ _ h => h) (Or.inl ⟨by rfl, ?_⟩) SW ?_
          · intro W5 hW5
            go_simp <;> first | done | rfl | (rw [IntKind.wrap_i64]; omega) | omega
          go_simp
          refine wpAnyH_take (i := 4) (v := .pointer (some ⟨b, 64, none⟩)) rfl (by kernel_rfl) (by kernel_rfl) (by kernel_rfl) (fun _ _ _ h => h) (Or.inl ⟨by rfl, ?_⟩) SW ?_
          · intro W5 hW5
            go_simp <;> first | done | rfl | (rw [IntKind.wrap_i64]; omega) | omega
          go_simp
          refine wpAnyH_take (i := 5) (v := .int .i64 (si : Nat)) rfl (by kernel_rfl) (by kernel_rfl) (by kernel_rfl) (fun _ _ _ h => h) (Or.inl ⟨by rfl, ?_⟩) SW ?_
          · intro W5 hW5
            have x64 := (HSB.out W5 (HBW.out.trans (hW5.mono HBW.out.size))).1.ends.1
            go_simp <;> first | done | rfl | (rw [IntKind.wrap_i64]; omega) | omega
          go_simp
          refine wpAnyH_take (i := 6) (v := .bool true) rfl (by kernel_rfl) (by kernel_rfl) (by kernel_rfl) (fun _ _ _ h => h) (Or.inl ⟨by rfl, ?_⟩) SW ?_
          · intro W5 hW5
            go_simp <;> first | done | rfl | (rw [IntKind.wrap_i64]; omega) | omega
          go_simp
          refine wpAnyH_take (i := 7) (v := .bool true) rfl (by kernel_rfl) (by kernel_rfl) (by kernel_rfl) (fun _ _ _ h => h) (Or.inl ⟨by rfl, ?_⟩) SW ?_
          · intro W5 hW5
            go_simp <;> first | done | rfl | (rw [IntKind.wrap_i64]; omega) | omega
          go_simp
          refine wpAnyH_take (i := 8) (v := .pointer (some ⟨b, 0, none⟩)) rfl (by kernel_rfl) (by kernel_rfl) (by kernel_rfl) (fun _ _ _ h => h) (Or.inl ⟨by rfl, ?_⟩) SW ?_
          · intro W5 hW5
            go_simp <;> first | done | rfl | (rw [IntKind.wrap_i64]; omega) | omega
          go_simp
          refine wpAnyH_take (i := 9) (v := .pointer (some ⟨b, 0, none⟩)) rfl (by kernel_rfl) (by kernel_rfl) (by kernel_rfl) (fun _ _ _ h => h) (Or.inl ⟨by rfl, ?_⟩) SW ?_
          · intro W5 hW5
            go_simp <;> first | done | rfl | (rw [IntKind.wrap_i64]; omega) | omega
          go_simp
          refine wpAnyH_take (i := 10) (v := .pointer (some ⟨b, 65, none⟩)) rfl (by kernel_rfl) (by kernel_rfl) (by kernel_rfl) (fun _ _ _ h => h) (Or.inl ⟨by rfl, ?_⟩) SW ?_
          · intro W5 hW5
            go_simp <;> first | done | rfl | (rw [IntKind.wrap_i64]; omega) | omega
          go_simp
          refine wpAnyH_take (i := 11) (v := .int .i64 (kn : Nat)) rfl (by kernel_rfl) (by kernel_rfl) (by kernel_rfl) (fun _ _ _ h => h) (Or.inl ⟨by rfl, ?_⟩) SW ?_
          · intro W5 hW5
            have x65 := (HSB.out W5 (HBW.out.trans (hW5.mono HBW.out.size))).1.ends.2.1
            go_simp <;> first | done | rfl | (rw [IntKind.wrap_i64]; omega) | omega
          go_simp
          refine wpAnyH_take (i := 12) (v := .int .i64 (i : Nat)) rfl (by kernel_rfl) (by kernel_rfl) (by kernel_rfl) (fun _ _ _ h => h) (Or.inl ⟨by rfl, ?_⟩) SW ?_
          · intro W5 hW5
            go_simp <;> first | done | rfl | (rw [IntKind.wrap_i64]; omega) | omega
          go_simp
          refine wpAnyH_take (i := 13) (v := .int .i64 (wrap64 (2 ^ i))) rfl (by kernel_rfl) (by kernel_rfl) (by kernel_rfl) (fun _ _ _ h => h) (Or.inl ⟨by rfl, ?_⟩) SW ?_
          · intro W5 hW5
            go_simp <;> first | done | rfl | (rw [IntKind.wrap_i64]; omega) | omega | (rw [wrap_eq])
          go_simp
          refine wpAnyH_take (i := 14) (v := .int .i64 bv) rfl (by kernel_rfl) (by kernel_rfl) (by kernel_rfl) (fun _ _ _ h => h) (Or.inl ⟨by rfl, ?_⟩) SW ?_
          · intro W5 hW5
            go_simp <;> first | done | rfl | (rw [IntKind.wrap_i64]; omega) | omega
          go_simp
          refine wpAnyH_take (i := 15) (v := .bool true) rfl (by kernel_rfl) (by kernel_rfl) (by kernel_rfl) (fun _ _ _ h => h) (Or.inl ⟨by rfl, ?_⟩) SW ?_
          · intro W5 hW5
            go_simp <;> first | done | rfl | (rw [IntKind.wrap_i64]; omega) | omega
          go_simp
          refine wpAnyH_take (i := 16) (v := .bool true) rfl (by kernel_rfl) (by kernel_rfl) (by kernel_rfl) (fun _ _ _ h => h) (Or.inl ⟨by rfl, ?_⟩) SW ?_
          · intro W5 hW5
            go_simp <;> first | done | rfl | (rw [IntKind.wrap_i64]; omega) | omega
          go_simp
          refine wpAnyH_take (i := 17) (v := .bool true) rfl (by kernel_rfl) (by kernel_rfl) (by kernel_rfl) (fun _ _ _ h => h) (Or.inl ⟨by rfl, ?_⟩) SW ?_
          · intro W5 hW5
            go_simp <;> first | done | rfl | (rw [IntKind.wrap_i64]; omega) | omega
          go_simp
          refine wpAnyH_take (i := 18) (v := .pointer (some ⟨b, 0, none⟩)) rfl (by kernel_rfl) (by kernel_rfl) (by kernel_rfl) (fun _ _ _ h => h) (Or.inl ⟨by rfl, ?_⟩) SW ?_
          · intro W5 hW5
            go_simp <;> first | done | rfl | (rw [IntKind.wrap_i64]; omega) | omega
          go_simp
          refine wpAnyH_take (i := 19) (v := .agg #[.int .i64 (si : Nat), .int .i64 (ki : Nat), .int .i64 (ri : Nat)]) rfl (by kernel_rfl) (by kernel_rfl) (by kernel_rfl) (fun _ _ _ h => h) (yieldsIf_load_mid (by rfl) 106 _ rfl wr.heap.size 0 (by rfl) [.int .i64 (si : Nat), .int .i64 (ki : Nat), .int .i64 (ri : Nat)] _ (fun W hW => (HC2.out W hW).range) Tryz.underlying106 rfl (by exact size105)) SW ?_
          go_simp
          refine wpAnyH_ready (rs := [20]) (by kernel_rfl) (by simp) ?_
          refine AllReadyH.cons rfl (fun K1 hK1 => ?_) AllReadyH.nil
          go_simp
          refine (HMC.out _ (HBW.out.trans (SW.mono HBW.out.size))).mono ?_
          rintro r w7 ⟨rfl, hb5⟩
          have B5 := SW.trans (hb5.mono SW.size)
          refine hK1.out _ _ B5 (fun SW => ?_)
          clear hK1 K1 hb5 B5
          go_simp
          refine wpAnyH_take (i := 21) (v := .bool mc) rfl (by kernel_rfl) (by kernel_rfl) (by kernel_rfl) (fun _ _ _ h => h) (Or.inl ⟨by rfl, ?_⟩) SW ?_
          · intro W5 hW5
            go_simp <;> first | done | rfl | (rw [IntKind.wrap_i64]; omega) | omega
          go_simp
          refine wpAnyH_done (by kernel_rfl) ?_ _
          have HBE : Hid (Below w2.heap.size w2 w7) := hide SW
          have rng : w7.rangeAt wr.heap.size 0 [.int .i64 (si : Nat), .int .i64 (ki : Nat), .int .i64 (ri : Nat)] := (HC2.out w7 SW).range
          have HBE1 : Hid (Below w1.heap.size w1 w7) := hide (HBW.out.trans (SW.mono HBW.out.size))
          clear SW
          cases mc with
          | false =>
            have HE : Hid (cmS Z si kn (i + 1) = cm) := hide (by rw [HSI.out, if_neg (by rw [HCI.out]; simp), Nat.or_zero])
            go_wp2_with fail
            exact ⟨⟨i + 1, by go_num, by omega, by rw [HE.out], HBE1⟩, by simp [intOf]; omega⟩
          | true =>
            have HE : Hid (cmS Z si kn (i + 1) = cm ||| pt) := hide (by rw [HSI.out, if_pos (by rw [HCI.out]; simp)])
            go_wp2_with (refine wpList_load_mid rfl 106 _ rfl wr.heap.size 0 rfl [.int .i64 (si : Nat), .int .i64 (ki : Nat), .int .i64 (ri : Nat)] _ rng Tryz.underlying106 rfl size105 ?_)
            refine (HTI.out _).mono ?_
            rintro r w8 ⟨rfl, hb8⟩
            have HB8 : Hid (Below w1.heap.size w1 w8) := hide (HBE1.out.trans (hb8.mono HBE1.out.size))
            clear hb8 rng
            go_wp2_with (go_at_call 65; refine (HJI.out _).mono ?_; rintro e w5 ⟨rfl, hw⟩; subst w5)
            exact ⟨⟨i + 1, by go_num, by omega, by rw [HE.out], HB8⟩, by simp [intOf]; omega⟩
      · have hsb : ((si : Int) == (t : Int)) = false := by simp; omega
        have hsn : (si == t) = false := by simp [hsi]
        have HE : Hid (cmS Z t kn (i + 1) = cm) := hide (by rw [HSI.out, if_neg (by rw [HCI.out, hsn]; simp), Nat.or_zero])
        clear HSI HCI hba
        refine wp_region_held (S := fun W5 => Below w2.heap.size w2 W5) (by kernel_rfl) ?_
        change wpAnyH _ _ _ _ _ _ _ _ (World.drew _)
        have SW : Below w2.heap.size w2 w2.drew := (Below.refl _ _).drew
        refine wpAnyH_take (i := 0) (v := .pointer (some ⟨wr.heap.size, 0, none⟩)) rfl (by kernel_rfl) (by kernel_rfl) (by kernel_rfl) (fun _ _ _ h => h) (Or.inl ⟨by rfl, ?_⟩) SW ?_
        · intro W5 hW5
          go_simp <;> first | done | rfl | (rw [IntKind.wrap_i64]; omega) | omega
        go_simp
        refine wpAnyH_take (i := 1) (v := .int .i64 (si : Nat)) rfl (by kernel_rfl) (by kernel_rfl) (by kernel_rfl) (fun _ _ _ h => h) (Or.inl ⟨by rfl, ?_⟩) SW ?_
        · intro W5 hW5
          have x0 := (HC2.out W5 hW5).cell (i := 0) rfl
          go_simp <;> first | done | rfl | (rw [IntKind.wrap_i64]; omega) | omega
        go_simp
        refine wpAnyH_take (i := 2) (v := .pointer (some ⟨b, 0, none⟩)) rfl (by kernel_rfl) (by kernel_rfl) (by kernel_rfl) (fun _ _ _ h => h) (Or.inl ⟨by rfl, ?_⟩) SW ?_
        · intro W5 hW5
          go_simp <;> first | done | rfl | (rw [IntKind.wrap_i64]; omega) | omega
        go_simp
        refine wpAnyH_take (i := 3) (v := .pointer (some ⟨b, 0, none⟩)) rfl (by kernel_rfl) (by kernel_rfl) (by kernel_rfl) (fun _ _ _ h => h) (Or.inl ⟨by rfl, ?_⟩) SW ?_
        · intro W5 hW5
          go_simp <;> first | done | rfl | (rw [IntKind.wrap_i64]; omega) | omega
        go_simp
        refine wpAnyH_take (i := 4) (v := .pointer (some ⟨b, 64, none⟩)) rfl (by kernel_rfl) (by kernel_rfl) (by kernel_rfl) (fun _ _ _ h => h) (Or.inl ⟨by rfl, ?_⟩) SW ?_
        · intro W5 hW5
          go_simp <;> first | done | rfl | (rw [IntKind.wrap_i64]; omega) | omega
        go_simp
        refine wpAnyH_take (i := 5) (v := .int .i64 (t : Nat)) rfl (by kernel_rfl) (by kernel_rfl) (by kernel_rfl) (fun _ _ _ h => h) (Or.inl ⟨by rfl, ?_⟩) SW ?_
        · intro W5 hW5
          have x64 := (HSB.out W5 (HBW.out.trans (hW5.mono HBW.out.size))).1.ends.1
          go_simp <;> first | done | rfl | (rw [IntKind.wrap_i64]; omega) | omega
        go_simp
        refine wpAnyH_take (i := 6) (v := .bool false) rfl (by kernel_rfl) (by kernel_rfl) (by kernel_rfl) (fun _ _ _ h => h) (Or.inl ⟨by rfl, ?_⟩) SW ?_
        · intro W5 hW5
          go_simp <;> first | done | rfl | (rw [IntKind.wrap_i64]; omega) | omega
        go_simp
        refine wpAnyH_take (i := 7) (v := .bool false) rfl (by kernel_rfl) (by kernel_rfl) (by kernel_rfl) (fun _ _ _ h => h) (Or.inl ⟨by rfl, ?_⟩) SW ?_
        · intro W5 hW5
          go_simp <;> first | done | rfl | (rw [IntKind.wrap_i64]; omega) | omega
        go_simp
        refine wpAnyH_take (i := 8) (v := undef) rfl (by kernel_rfl) (by kernel_rfl) (by kernel_rfl) (fun _ _ _ h => h) (Or.inr ⟨by rfl, rfl⟩) SW ?_
        go_simp
        refine wpAnyH_take (i := 9) (v := undef) rfl (by kernel_rfl) (by kernel_rfl) (by kernel_rfl) (fun _ _ _ h => h) (Or.inr ⟨by rfl, rfl⟩) SW ?_
        go_simp
        refine wpAnyH_take (i := 10) (v := undef) rfl (by kernel_rfl) (by kernel_rfl) (by kernel_rfl) (fun _ _ _ h => h) (Or.inr ⟨by rfl, rfl⟩) SW ?_
        go_simp
        refine wpAnyH_take (i := 11) (v := undef) rfl (by kernel_rfl) (by kernel_rfl) (by kernel_rfl) (fun _ _ _ h => h) (Or.inr ⟨by rfl, rfl⟩) SW ?_
        go_simp
        refine wpAnyH_take (i := 12) (v := undef) rfl (by kernel_rfl) (by kernel_rfl) (by kernel_rfl) (fun _ _ _ h => h) (Or.inr ⟨by rfl, rfl⟩) SW ?_
        go_simp
        refine wpAnyH_take (i := 13) (v := undef) rfl (by kernel_rfl) (by kernel_rfl) (by kernel_rfl) (fun _ _ _ h => h) (Or.inr ⟨by rfl, rfl⟩) SW ?_
        go_simp
        refine wpAnyH_take (i := 14) (v := undef) rfl (by kernel_rfl) (by kernel_rfl) (by kernel_rfl) (fun _ _ _ h => h) (Or.inr ⟨by rfl, rfl⟩) SW ?_
        go_simp
        refine wpAnyH_take (i := 15) (v := undef) rfl (by kernel_rfl) (by kernel_rfl) (by kernel_rfl) (fun _ _ _ h => h) (Or.inr ⟨by rfl, rfl⟩) SW ?_
        go_simp
        refine wpAnyH_take (i := 16) (v := .bool false) rfl (by kernel_rfl) (by kernel_rfl) (by kernel_rfl) (fun _ _ _ h => h) (Or.inl ⟨by rfl, ?_⟩) SW ?_
        · intro W5 hW5
          go_simp <;> first | done | rfl | (rw [IntKind.wrap_i64]; omega) | omega
        go_simp
        refine wpAnyH_take (i := 17) (v := .bool false) rfl (by kernel_rfl) (by kernel_rfl) (by kernel_rfl) (fun _ _ _ h => h) (Or.inl ⟨by rfl, ?_⟩) SW ?_
        · intro W5 hW5
          go_simp <;> first | done | rfl | (rw [IntKind.wrap_i64]; omega) | omega
        go_simp
        refine wpAnyH_take (i := 18) (v := undef) rfl (by kernel_rfl) (by kernel_rfl) (by kernel_rfl) (fun _ _ _ h => h) (Or.inr ⟨by rfl, rfl⟩) SW ?_
        go_simp
        refine wpAnyH_take (i := 19) (v := undef) rfl (by kernel_rfl) (by kernel_rfl) (by kernel_rfl) (fun _ _ _ h => h) (Or.inr ⟨by rfl, rfl⟩) SW ?_
        go_simp
        refine wpAnyH_take (i := 20) (v := undef) rfl (by kernel_rfl) (by kernel_rfl) (by kernel_rfl) (fun _ _ _ h => h) (Or.inr ⟨by rfl, rfl⟩) SW ?_
        go_simp
        refine wpAnyH_take (i := 21) (v := .bool false) rfl (by kernel_rfl) (by kernel_rfl) (by kernel_rfl) (fun _ _ _ h => h) (Or.inl ⟨by rfl, ?_⟩) SW ?_
        · intro W5 hW5
          go_simp <;> first | done | rfl | (rw [IntKind.wrap_i64]; omega) | omega
        go_simp
        refine wpAnyH_done (by kernel_rfl) ?_ _
        have HBE : Hid (Below w1.heap.size w1 _) := hide (HBW.out.trans (SW.mono HBW.out.size))
        clear SW
        go_wp2_with fail
        exact ⟨⟨i + 1, by go_num, by omega, by rw [HE.out], HBE⟩, by simp [intOf]; omega⟩
    · obtain rfl : i = 4 := by omega
      go_wp2_with fail
      go_ret
      exact ⟨rfl, HB1.out.trans (hbl.out.mono HB1.out.size)⟩

end Go.Proofs.YtdmlamnonbmboaaGreatDoor
