/-
  Chess: which castling a move is, walked. No conditions beyond those that each theorem bears.
-/
import Derived.Test.YtdmlamnonbmboaaGreatDoorV25
namespace Go.Proofs.YtdmlamnonbmboaaGreatDoor
open Go.RowKit Go.Shelf

theorem results_rt {fn : Func} {t u : Tmp} {ty : TypeId} (h : fn.results = #[.cell t ty, .tmp u]) (tmps : Array Value) (w : World) (b : Nat) (hb : tmps.getD t undef = .pointer (some ⟨b, 0, none⟩)) {v y : Value} (hu : tmps.getD u undef = y)
    (hr : (loadVar ty ⟨b, 0, none⟩).run Tryz.prog w = .ok v w) :
    (results fn tmps).run Tryz.prog w = .ok (.tuple #[v, y]) w := by
  have hb' : tmps[t]?.getD undef = .pointer (some ⟨b, 0, none⟩) := by simpa using hb
  have hu' : tmps[u]?.getD undef = y := by simpa using hu
  simp [results, h, hb', hu', asAddr, hr]

/-- What castlingBy answers. -/
def cyV : Option Nat → Value
  | none => .tuple #[.agg #[.int .i64 0, .int .i64 0, .int .i64 0], .bool false]
  | some i => .tuple #[.agg #[.int .i64 (sdP i : Nat), .int .i64 (kgP i : Nat), .int .i64 (rkP i : Nat)], .bool true]

def cyB (Z : List Int) (x q i : Nat) : Bool := (zg Z x).natAbs == 6 && (x == kgP i && q == cTo i)
theorem cI_none {Z : List Int} {x q : Nat} (h : ∀ i, i < 4 → cyB Z x q i = false) : cI Z x q = none := by
  unfold cI
  split
  · rename_i h6
    rw [List.find?_eq_none]
    intro i hi
    have := h i (List.mem_range.1 hi)
    unfold cyB at this
    rw [h6] at this
    simpa using this
  · rfl
theorem cI_first {Z : List Int} {x q i : Nat} (hi : i < 4) (h1 : cyB Z x q i = true) : cI Z x q = some i := by
  unfold cyB at h1
  simp only [Bool.and_eq_true, beq_iff_eq] at h1
  obtain ⟨h6, rfl, rfl⟩ := h1
  exact cI_at hi h6

attribute [local irreducible] cT sdP kgP rkP cTo

set_option maxRecDepth 100000 in
set_option maxHeartbeats 8000000 in
theorem castlingBy_any (b : Nat) (Z : List Int) (t : Nat) (k e h f : Int) (hz : Pz Z) (x q n : Nat) (hx : x < 64) (w : World) (hs : Sb w b Z (t : Nat) k e h f) :
    Calls Tryz.prog 81 #[.pointer (some ⟨b, 0, none⟩), .agg #[.int .i64 (x : Nat), .int .i64 (q : Nat), .int .i64 (n : Nat)]] w fun r w' => r = .returned (cyV (cI Z x q)) ∧ Below w.heap.size w w' := by
  obtain ⟨w1, hw1⟩ : ∃ w1, (w.alloc (.cells #[.int .i64 (x : Nat), .int .i64 (q : Nat), .int .i64 (n : Nat)] 32)).alloc (.cells #[.int .i64 0, .int .i64 0, .int .i64 0] 106) = w1 := ⟨_, rfl⟩
  have s1 : w1.heap.size = w.heap.size + 2 := by rw [← hw1]; simp
  have B1 : Below w.heap.size w w1 := by rw [← hw1]; exact ((Below.refl _ w).alloc (Nat.le_refl _) _).alloc (by simp) _
  have V1 : Vb w1 w.heap.size 32 [.int .i64 (x : Nat), .int .i64 (q : Nat), .int .i64 (n : Nat)] := by rw [← hw1]; exact (Vb.new w 32 _).old _
  have V2 : Vb w1 (w.heap.size + 1) 106 [.int .i64 0, .int .i64 0, .int .i64 0] := by
    rw [← hw1]
    have := Vb.new (w.alloc (.cells #[.int .i64 (x : Nat), .int .i64 (q : Nat), .int .i64 (n : Nat)] 32)) 106 [.int .i64 0, .int .i64 0, .int .i64 0]
    rw [World.size_alloc] at this
    exact this
  have S1 := hs.mono B1
  have HMV : Hid (∀ W, Below w1.heap.size w1 W → Vb W w.heap.size 32 [.int .i64 (x : Nat), .int .i64 (q : Nat), .int .i64 (n : Nat)]) := hide (fun W hb => V1.mono hb)
  have HRV : Hid (∀ W, Below w1.heap.size w1 W → Vb W (w.heap.size + 1) 106 [.int .i64 0, .int .i64 0, .int .i64 0]) := hide (fun W hb => V2.mono hb)
  have HKO : Hid (∀ W, Below w1.heap.size w1 W → Calls Tryz.prog 52 #[.pointer (some ⟨b, 0, none⟩), .int .i64 (x : Nat)] W fun r w' => r = .returned (.int .i64 ((zg Z x).natAbs : Nat)) ∧ w' = W) := hide (fun W hb => kindOn_any b Z t k e h f hz x hx W (S1.mono hb))
  have HTOA : Hid (∀ i, i < 4 → ∀ W, Calls Tryz.prog 106 #[.agg #[.int .i64 (sdP i : Nat), .int .i64 (kgP i : Nat), .int .i64 (rkP i : Nat)]] W fun r w' => r = .returned (.int .i64 (cTo i : Nat)) ∧ Below W.heap.size W w') := hide (fun i hi W => to_any (sdP i) (kgP i) (rkP i) (cTo i) (drC i) (bw_cas hi).1.dd (bw_cas hi).2 (bw_cas hi).1.k64 W)
  have HNO : Hid ((∀ i, i < 4 → cyB Z x q i = false) → cI Z x q = none) := hide cI_none
  have HYE : Hid (∀ i, i < 4 → cyB Z x q i = true → cI Z x q = some i) := hide (fun i hi => cI_first hi)
  have HCB : Hid (∀ i, cyB Z x q i = ((zg Z x).natAbs == 6 && (x == kgP i && q == cTo i))) := hide (fun i => rfl)
  generalize (zg Z x).natAbs = m at *
  obtain ⟨RR, hRR⟩ : ∃ RR, cyV (cI Z x q) = RR := ⟨_, rfl⟩
  rw [hRR]
  have HRN : Hid ((∀ i, i < 4 → cyB Z x q i = false) → RR = .tuple #[.agg #[.int .i64 0, .int .i64 0, .int .i64 0], .bool false]) := hide (fun hh => by rw [← hRR, HNO.out hh]; rfl)
  have HRY : Hid (∀ i, i < 4 → cyB Z x q i = true → RR = .tuple #[.agg #[.int .i64 (sdP i : Nat), .int .i64 (kgP i : Nat), .int .i64 (rkP i : Nat)], .bool true]) := hide (fun i hi hh => by rw [← hRR, HYE.out i hi hh]; rfl)
  have HB1 := hide B1
  have HS1 := hide s1
  clear B1 V1 V2 S1 s1 hs hz hRR HNO HYE
  go_enter Tryz.func81, Tryz.ntmps81
  go_upto_region 1 with fail
  clear hw1
  go_wp2_with fail
  refine (castlings_any _).mono ?_
  rintro r w0 ⟨rfl, hb0⟩
  have HB0 : Hid (Below w1.heap.size w1 w0) := hide hb0
  clear hb0
  go_wp2_with fail
  go_loopw [9] (fun v wr => ∃ i : Nat, v = .int .i64 i ∧ i ≤ 4 ∧ Hid (∀ j, j < i → cyB Z x q j = false) ∧ Hid (Below w1.heap.size w1 wr)) (fun v _ => 4 - (intOf v).toNat)
  case atStart => exact ⟨0, rfl, by omega, hide (fun j hj => absurd hj (by omega)), HB0⟩
  case round =>
    obtain ⟨i, rfl, hi, hall, hbl⟩ := hrel
    by_cases hlt : i < 4
    · have hlt' : (i : Int) < 4 := by omega
      have hidx := run_cas i hlt
      have HCI := hide (HCB.out i)
      have HTI := hide (HTOA.out i hlt)
      have HYI := hide (HRY.out i hlt)
      have HNI : Hid (cyB Z x q i = false → ∀ j, j < i + 1 → cyB Z x q j = false) := hide (fun hh j hj => by
        by_cases ej : j = i
        · subst ej; exact hh
        · exact hall.out j (by omega))
      generalize sdP i = si at *
      generalize kgP i = ki at *
      generalize rkP i = ri at *
      generalize cTo i = ct at *
      obtain ⟨w2, hw2⟩ : ∃ w2, wr.alloc (.cells #[.int .i64 (si : Nat), .int .i64 (ki : Nat), .int .i64 (ri : Nat)] 106) = w2 := ⟨_, rfl⟩
      have B2 : Below w1.heap.size w1 w2 := by rw [← hw2]; exact hbl.out.alloc hbl.out.size _
      have C2 : Vb w2 wr.heap.size 106 [.int .i64 (si : Nat), .int .i64 (ki : Nat), .int .i64 (ri : Nat)] := by rw [← hw2]; exact Vb.new wr 106 _
      have HBW := hide B2
      have HC2 : Hid (∀ W, Below w2.heap.size w2 W → Vb W wr.heap.size 106 [.int .i64 (si : Nat), .int .i64 (ki : Nat), .int .i64 (ri : Nat)]) := hide (fun W hb => C2.mono hb)
      clear B2 C2 hbl hall
      go_upto_region 4 with fail
      clear hw2 hidx
      by_cases h6 : m = 6
      · subst h6
        by_cases e1 : x = ki
        · subst e1
          by_cases e2 : q = ct
          · subst e2
            have hR := HYI.out (by rw [HCI.out]; simp)
            subst hR
            clear HCI HNI HYI
            refine wp_region_held (S := fun W5 => Below w2.heap.size w2 W5) (by kernel_rfl) ?_
            change wpAnyH _ _ _ _ _ _ _ _ (World.drew _)
            have SW : Below w2.heap.size w2 w2.drew := (Below.refl _ _).drew
            refine wpAnyH_take (i := 0) (v := .pointer (some ⟨b, 0, none⟩)) rfl (by kernel_rfl) (by kernel_rfl) (by kernel_rfl) (fun _ _ _ h => h) (Or.inl ⟨by rfl, ?_⟩) SW ?_
            · intro W5 hW5
              go_simp <;> first | done | rfl | (rw [IntKind.wrap_i64]; omega) | omega
            go_simp
            refine wpAnyH_take (i := 1) (v := .pointer (some ⟨w.heap.size, 0, none⟩)) rfl (by kernel_rfl) (by kernel_rfl) (by kernel_rfl) (fun _ _ _ h => h) (Or.inl ⟨by rfl, ?_⟩) SW ?_
            · intro W5 hW5
              go_simp <;> first | done | rfl | (rw [IntKind.wrap_i64]; omega) | omega
            go_simp
            refine wpAnyH_take (i := 2) (v := .int .i64 (x : Nat)) rfl (by kernel_rfl) (by kernel_rfl) (by kernel_rfl) (fun _ _ _ h => h) (Or.inl ⟨by rfl, ?_⟩) SW ?_
            · intro W5 hW5
              have y0 := (HMV.out W5 (HBW.out.trans (hW5.mono HBW.out.size))).cell (i := 0) rfl
              go_simp <;> first | done | rfl | (rw [IntKind.wrap_i64]; omega) | omega
            go_simp
            refine wpAnyH_ready (rs := [3]) (by kernel_rfl) (by simp) ?_
            refine AllReadyH.cons rfl (fun K1 hK1 => ?_) AllReadyH.nil
            go_simp
            refine (HKO.out _ (HBW.out.trans (SW.mono HBW.out.size))).mono ?_
            rintro r w5 ⟨rfl, hw⟩
            subst w5
            refine hK1.out _ _ SW (fun SW => ?_)
            clear hK1 K1
            go_simp
            refine wpAnyH_take (i := 4) (v := .bool true) rfl (by kernel_rfl) (by kernel_rfl) (by kernel_rfl) (fun _ _ _ h => h) (Or.inl ⟨by rfl, ?_⟩) SW ?_
            · intro W5 hW5
              go_simp <;> first | done | rfl | (rw [IntKind.wrap_i64]; omega) | omega
            go_simp
            refine wpAnyH_take (i := 5) (v := .bool true) rfl (by kernel_rfl) (by kernel_rfl) (by kernel_rfl) (fun _ _ _ h => h) (Or.inl ⟨by rfl, ?_⟩) SW ?_
            · intro W5 hW5
              go_simp <;> first | done | rfl | (rw [IntKind.wrap_i64]; omega) | omega
            go_simp
            refine wpAnyH_take (i := 6) (v := .pointer (some ⟨w.heap.size, 0, none⟩)) rfl (by kernel_rfl) (by kernel_rfl) (by kernel_rfl) (fun _ _ _ h => h) (Or.inl ⟨by rfl, ?_⟩) SW ?_
            · intro W5 hW5
              go_simp <;> first | done | rfl | (rw [IntKind.wrap_i64]; omega) | omega
            go_simp
            refine wpAnyH_take (i := 7) (v := .int .i64 (x : Nat)) rfl (by kernel_rfl) (by kernel_rfl) (by kernel_rfl) (fun _ _ _ h => h) (Or.inl ⟨by rfl, ?_⟩) SW ?_
            · intro W5 hW5
              have y0 := (HMV.out W5 (HBW.out.trans (hW5.mono HBW.out.size))).cell (i := 0) rfl
              go_simp <;> first | done | rfl | (rw [IntKind.wrap_i64]; omega) | omega
            go_simp
            refine wpAnyH_take (i := 8) (v := .pointer (some ⟨wr.heap.size, 1, none⟩)) rfl (by kernel_rfl) (by kernel_rfl) (by kernel_rfl) (fun _ _ _ h => h) (Or.inl ⟨by rfl, ?_⟩) SW ?_
            · intro W5 hW5
              go_simp <;> first | done | rfl | (rw [IntKind.wrap_i64]; omega) | omega
            go_simp
            refine wpAnyH_take (i := 9) (v := .int .i64 (x : Nat)) rfl (by kernel_rfl) (by kernel_rfl) (by kernel_rfl) (fun _ _ _ h => h) (Or.inl ⟨by rfl, ?_⟩) SW ?_
            · intro W5 hW5
              have z1 := (HC2.out W5 hW5).cell (i := 1) rfl
              go_simp <;> first | done | rfl | (rw [IntKind.wrap_i64]; omega) | omega
            go_simp
            refine wpAnyH_take (i := 10) (v := .bool true) rfl (by kernel_rfl) (by kernel_rfl) (by kernel_rfl) (fun _ _ _ h => h) (Or.inl ⟨by rfl, ?_⟩) SW ?_
            · intro W5 hW5
              go_simp <;> first | done | rfl | (rw [IntKind.wrap_i64]; omega) | omega
            go_simp
            refine wpAnyH_take (i := 11) (v := .bool true) rfl (by kernel_rfl) (by kernel_rfl) (by kernel_rfl) (fun _ _ _ h => h) (Or.inl ⟨by rfl, ?_⟩) SW ?_
            · intro W5 hW5
              go_simp <;> first | done | rfl | (rw [IntKind.wrap_i64]; omega) | omega
            go_simp
            refine wpAnyH_take (i := 12) (v := .bool true) rfl (by kernel_rfl) (by kernel_rfl) (by kernel_rfl) (fun _ _ _ h => h) (Or.inl ⟨by rfl, ?_⟩) SW ?_
            · intro W5 hW5
              go_simp <;> first | done | rfl | (rw [IntKind.wrap_i64]; omega) | omega
            go_simp
            refine wpAnyH_take (i := 13) (v := .pointer (some ⟨w.heap.size, 1, none⟩)) rfl (by kernel_rfl) (by kernel_rfl) (by kernel_rfl) (fun _ _ _ h => h) (Or.inl ⟨by rfl, ?_⟩) SW ?_
            · intro W5 hW5
              go_simp <;> first | done | rfl | (rw [IntKind.wrap_i64]; omega) | omega
            go_simp
            refine wpAnyH_take (i := 14) (v := .int .i64 (q : Nat)) rfl (by kernel_rfl) (by kernel_rfl) (by kernel_rfl) (fun _ _ _ h => h) (Or.inl ⟨by rfl, ?_⟩) SW ?_
            · intro W5 hW5
              have y1 := (HMV.out W5 (HBW.out.trans (hW5.mono HBW.out.size))).cell (i := 1) rfl
              go_simp <;> first | done | rfl | (rw [IntKind.wrap_i64]; omega) | omega
            go_simp
            refine wpAnyH_take (i := 15) (v := .agg #[.int .i64 (si : Nat), .int .i64 (x : Nat), .int .i64 (ri : Nat)]) rfl (by kernel_rfl) (by kernel_rfl) (by kernel_rfl) (fun _ _ _ h => h) (yieldsIf_load_mid (by rfl) 106 _ rfl wr.heap.size 0 (by rfl) [.int .i64 (si : Nat), .int .i64 (x : Nat), .int .i64 (ri : Nat)] _ (fun W hW => (HC2.out W hW).range) Tryz.underlying106 rfl (by exact size105)) SW ?_
            go_simp
            refine wpAnyH_ready (rs := [16]) (by kernel_rfl) (by simp) ?_
            refine AllReadyH.cons rfl (fun K1 hK1 => ?_) AllReadyH.nil
            go_simp
            refine (HTI.out _).mono ?_
            rintro r w7 ⟨rfl, hb5⟩
            have B5 := SW.trans (hb5.mono SW.size)
            refine hK1.out _ _ B5 (fun SW => ?_)
            clear hK1 K1 hb5 B5
            go_simp
            refine wpAnyH_take (i := 17) (v := .bool true) rfl (by kernel_rfl) (by kernel_rfl) (by kernel_rfl) (fun _ _ _ h => h) (Or.inl ⟨by rfl, ?_⟩) SW ?_
            · intro W5 hW5
              go_simp <;> first | done | rfl | (rw [IntKind.wrap_i64]; omega) | omega
            go_simp
            refine wpAnyH_take (i := 18) (v := .bool true) rfl (by kernel_rfl) (by kernel_rfl) (by kernel_rfl) (fun _ _ _ h => h) (Or.inl ⟨by rfl, ?_⟩) SW ?_
            · intro W5 hW5
              go_simp <;> first | done | rfl | (rw [IntKind.wrap_i64]; omega) | omega
            go_simp
            refine wpAnyH_done (by kernel_rfl) ?_ _
            have HBE : Hid (Below w1.heap.size w1 w7) := hide (HBW.out.trans (SW.mono HBW.out.size))
            have rng : w7.rangeAt wr.heap.size 0 [.int .i64 (si : Nat), .int .i64 (x : Nat), .int .i64 (ri : Nat)] := (HC2.out w7 SW).range
            clear SW
            have VR := HRV.out w7 HBE.out
            have r0 := VR.cell (i := 0) rfl
            have r1 := VR.cell (i := 1) rfl
            have r2 := VR.cell (i := 2) rfl
            have f0 := VR.frozen 0
            have f1 := VR.frozen 1
            have f2 := VR.frozen 2
            go_wp2_with (refine wpList_load_mid rfl 106 _ rfl wr.heap.size 0 rfl [.int .i64 (si : Nat), .int .i64 (x : Nat), .int .i64 (ri : Nat)] _ rng Tryz.underlying106 rfl size105 ?_)
            have V9 : Vb ((((w7).setCell ⟨w.heap.size + 1, 0, none⟩ (.int .i64 (si : Nat))).setCell ⟨w.heap.size + 1, 1, none⟩ (.int .i64 (x : Nat))).setCell ⟨w.heap.size + 1, 2, none⟩ (.int .i64 (ri : Nat))) (w.heap.size + 1) 106 [.int .i64 (si : Nat), .int .i64 (x : Nat), .int .i64 (ri : Nat)] := ((VR.set 0 _).set 1 _).set 2 _
            have b0 : Below w.heap.size w w7 := HB1.out.trans (HBE.out.mono HB1.out.size)
            have b3 := ((b0.setCell (p := ⟨w.heap.size + 1, 0, none⟩) (Nat.le_succ _) (.int .i64 (si : Nat))).setCell (p := ⟨w.heap.size + 1, 1, none⟩) (Nat.le_succ _) (.int .i64 (x : Nat))).setCell (p := ⟨w.heap.size + 1, 2, none⟩) (Nat.le_succ _) (.int .i64 (ri : Nat))
            exact bodyPost_ret (results_rt rfl _ _ (w.heap.size + 1) rfl rfl (run_loadVar_row _ _ 106 106 _ (0, 0) _ V9 Tryz.underlying106 rfl size105)) rfl ⟨rfl, b3⟩
          · have b2 : ((q : Int) == (ct : Int)) = false := by simp; omega
            have HNX := hide (HNI.out (by rw [HCI.out]; simp [e2]))
            clear HCI HNI HYI
            refine wp_region_held (S := fun W5 => Below w2.heap.size w2 W5) (by kernel_rfl) ?_
            change wpAnyH _ _ _ _ _ _ _ _ (World.drew _)
            have SW : Below w2.heap.size w2 w2.drew := (Below.refl _ _).drew
            refine wpAnyH_take (i := 0) (v := .pointer (some ⟨b, 0, none⟩)) rfl (by kernel_rfl) (by kernel_rfl) (by kernel_rfl) (fun _ _ _ h => h) (Or.inl ⟨by rfl, ?_⟩) SW ?_
            · intro W5 hW5
              go_simp <;> first | done | rfl | (rw [IntKind.wrap_i64]; omega) | omega
            go_simp
            refine wpAnyH_take (i := 1) (v := .pointer (some ⟨w.heap.size, 0, none⟩)) rfl (by kernel_rfl) (by kernel_rfl) (by kernel_rfl) (fun _ _ _ h => h) (Or.inl ⟨by rfl, ?_⟩) SW ?_
            · intro W5 hW5
              go_simp <;> first | done | rfl | (rw [IntKind.wrap_i64]; omega) | omega
            go_simp
            refine wpAnyH_take (i := 2) (v := .int .i64 (x : Nat)) rfl (by kernel_rfl) (by kernel_rfl) (by kernel_rfl) (fun _ _ _ h => h) (Or.inl ⟨by rfl, ?_⟩) SW ?_
            · intro W5 hW5
              have y0 := (HMV.out W5 (HBW.out.trans (hW5.mono HBW.out.size))).cell (i := 0) rfl
              go_simp <;> first | done | rfl | (rw [IntKind.wrap_i64]; omega) | omega
            go_simp
            refine wpAnyH_ready (rs := [3]) (by kernel_rfl) (by simp) ?_
            refine AllReadyH.cons rfl (fun K1 hK1 => ?_) AllReadyH.nil
            go_simp
            refine (HKO.out _ (HBW.out.trans (SW.mono HBW.out.size))).mono ?_
            rintro r w5 ⟨rfl, hw⟩
            subst w5
            refine hK1.out _ _ SW (fun SW => ?_)
            clear hK1 K1
            go_simp
            refine wpAnyH_take (i := 4) (v := .bool true) rfl (by kernel_rfl) (by kernel_rfl) (by kernel_rfl) (fun _ _ _ h => h) (Or.inl ⟨by rfl, ?_⟩) SW ?_
            · intro W5 hW5
              go_simp <;> first | done | rfl | (rw [IntKind.wrap_i64]; omega) | omega
            go_simp
            refine wpAnyH_take (i := 5) (v := .bool true) rfl (by kernel_rfl) (by kernel_rfl) (by kernel_rfl) (fun _ _ _ h => h) (Or.inl ⟨by rfl, ?_⟩) SW ?_
            · intro W5 hW5
              go_simp <;> first | done | rfl | (rw [IntKind.wrap_i64]; omega) | omega
            go_simp
            refine wpAnyH_take (i := 6) (v := .pointer (some ⟨w.heap.size, 0, none⟩)) rfl (by kernel_rfl) (by kernel_rfl) (by kernel_rfl) (fun _ _ _ h => h) (Or.inl ⟨by rfl, ?_⟩) SW ?_
            · intro W5 hW5
              go_simp <;> first | done | rfl | (rw [IntKind.wrap_i64]; omega) | omega
            go_simp
            refine wpAnyH_take (i := 7) (v := .int .i64 (x : Nat)) rfl (by kernel_rfl) (by kernel_rfl) (by kernel_rfl) (fun _ _ _ h => h) (Or.inl ⟨by rfl, ?_⟩) SW ?_
            · intro W5 hW5
              have y0 := (HMV.out W5 (HBW.out.trans (hW5.mono HBW.out.size))).cell (i := 0) rfl
              go_simp <;> first | done | rfl | (rw [IntKind.wrap_i64]; omega) | omega
            go_simp
            refine wpAnyH_take (i := 8) (v := .pointer (some ⟨wr.heap.size, 1, none⟩)) rfl (by kernel_rfl) (by kernel_rfl) (by kernel_rfl) (fun _ _ _ h => h) (Or.inl ⟨by rfl, ?_⟩) SW ?_
            · intro W5 hW5
              go_simp <;> first | done | rfl | (rw [IntKind.wrap_i64]; omega) | omega
            go_simp
            refine wpAnyH_take (i := 9) (v := .int .i64 (x : Nat)) rfl (by kernel_rfl) (by kernel_rfl) (by kernel_rfl) (fun _ _ _ h => h) (Or.inl ⟨by rfl, ?_⟩) SW ?_
            · intro W5 hW5
              have z1 := (HC2.out W5 hW5).cell (i := 1) rfl
              go_simp <;> first | done | rfl | (rw [IntKind.wrap_i64]; omega) | omega
            go_simp
            refine wpAnyH_take (i := 10) (v := .bool true) rfl (by kernel_rfl) (by kernel_rfl) (by kernel_rfl) (fun _ _ _ h => h) (Or.inl ⟨by rfl, ?_⟩) SW ?_
            · intro W5 hW5
              go_simp <;> first | done | rfl | (rw [IntKind.wrap_i64]; omega) | omega
            go_simp
            refine wpAnyH_take (i := 11) (v := .bool true) rfl (by kernel_rfl) (by kernel_rfl) (by kernel_rfl) (fun _ _ _ h => h) (Or.inl ⟨by rfl, ?_⟩) SW ?_
            · intro W5 hW5
              go_simp <;> first | done | rfl | (rw [IntKind.wrap_i64]; omega) | omega
            go_simp
            refine wpAnyH_take (i := 12) (v := .bool true) rfl (by kernel_rfl) (by kernel_rfl) (by kernel_rfl) (fun _ _ _ h => h) (Or.inl ⟨by rfl, ?_⟩) SW ?_
            · intro W5 hW5
              go_simp <;> first | done | rfl | (rw [IntKind.wrap_i64]; omega) | omega
            go_simp
            refine wpAnyH_take (i := 13) (v := .pointer (some ⟨w.heap.size, 1, none⟩)) rfl (by kernel_rfl) (by kernel_rfl) (by kernel_rfl) (fun _ _ _ h => h) (Or.inl ⟨by rfl, ?_⟩) SW ?_
            · intro W5 hW5
              go_simp <;> first | done | rfl | (rw [IntKind.wrap_i64]; omega) | omega
            go_simp
            refine wpAnyH_take (i := 14) (v := .int .i64 (q : Nat)) rfl (by kernel_rfl) (by kernel_rfl) (by kernel_rfl) (fun _ _ _ h => h) (Or.inl ⟨by rfl, ?_⟩) SW ?_
            · intro W5 hW5
              have y1 := (HMV.out W5 (HBW.out.trans (hW5.mono HBW.out.size))).cell (i := 1) rfl
              go_simp <;> first | done | rfl | (rw [IntKind.wrap_i64]; omega) | omega
            go_simp
            refine wpAnyH_take (i := 15) (v := .agg #[.int .i64 (si : Nat), .int .i64 (x : Nat), .int .i64 (ri : Nat)]) rfl (by kernel_rfl) (by kernel_rfl) (by kernel_rfl) (fun _ _ _ h => h) (yieldsIf_load_mid (by rfl) 106 _ rfl wr.heap.size 0 (by rfl) [.int .i64 (si : Nat), .int .i64 (x : Nat), .int .i64 (ri : Nat)] _ (fun W hW => (HC2.out W hW).range) Tryz.underlying106 rfl (by exact size105)) SW ?_
            go_simp
            refine wpAnyH_ready (rs := [16]) (by kernel_rfl) (by simp) ?_
            refine AllReadyH.cons rfl (fun K1 hK1 => ?_) AllReadyH.nil
            go_simp
            refine (HTI.out _).mono ?_
            rintro r w7 ⟨rfl, hb5⟩
            have B5 := SW.trans (hb5.mono SW.size)
            refine hK1.out _ _ B5 (fun SW => ?_)
            clear hK1 K1 hb5 B5
            go_simp
            refine wpAnyH_take (i := 17) (v := .bool false) rfl (by kernel_rfl) (by kernel_rfl) (by kernel_rfl) (fun _ _ _ h => h) (Or.inl ⟨by rfl, ?_⟩) SW ?_
            · intro W5 hW5
              go_simp <;> first | done | rfl | (rw [IntKind.wrap_i64]; omega) | omega
            go_simp
            refine wpAnyH_take (i := 18) (v := .bool false) rfl (by kernel_rfl) (by kernel_rfl) (by kernel_rfl) (fun _ _ _ h => h) (Or.inl ⟨by rfl, ?_⟩) SW ?_
            · intro W5 hW5
              go_simp <;> first | done | rfl | (rw [IntKind.wrap_i64]; omega) | omega
            go_simp
            refine wpAnyH_done (by kernel_rfl) ?_ _
            have HBE : Hid (Below w1.heap.size w1 _) := hide (HBW.out.trans (SW.mono HBW.out.size))
            clear SW
            go_wp2_with fail
            exact ⟨⟨i + 1, by go_num, by omega, HNX, HBE⟩, by simp [intOf]; omega⟩
        · have b1 : ((x : Int) == (ki : Int)) = false := by simp; omega
          have HNX := hide (HNI.out (by rw [HCI.out]; simp [e1]))
          clear HCI HNI HYI
          refine wp_region_held (S := fun W5 => Below w2.heap.size w2 W5) (by kernel_rfl) ?_
          change wpAnyH _ _ _ _ _ _ _ _ (World.drew _)
          have SW : Below w2.heap.size w2 w2.drew := (Below.refl _ _).drew
          refine wpAnyH_take (i := 0) (v := .pointer (some ⟨b, 0, none⟩)) rfl (by kernel_rfl) (by kernel_rfl) (by kernel_rfl) (fun _ _ _ h => h) (Or.inl ⟨by rfl, ?_⟩) SW ?_
          · intro W5 hW5
            go_simp <;> first | done | rfl | (rw [IntKind.wrap_i64]; omega) | omega
          go_simp
          refine wpAnyH_take (i := 1) (v := .pointer (some ⟨w.heap.size, 0, none⟩)) rfl (by kernel_rfl) (by kernel_rfl) (by kernel_rfl) (fun _ _ _ h => h) (Or.inl ⟨by rfl, ?_⟩) SW ?_
          · intro W5 hW5
            go_simp <;> first | done | rfl | (rw [IntKind.wrap_i64]; omega) | omega
          go_simp
          refine wpAnyH_take (i := 2) (v := .int .i64 (x : Nat)) rfl (by kernel_rfl) (by kernel_rfl) (by kernel_rfl) (fun _ _ _ h => h) (Or.inl ⟨by rfl, ?_⟩) SW ?_
          · intro W5 hW5
            have y0 := (HMV.out W5 (HBW.out.trans (hW5.mono HBW.out.size))).cell (i := 0) rfl
            go_simp <;> first | done | rfl | (rw [IntKind.wrap_i64]; omega) | omega
          go_simp
          refine wpAnyH_ready (rs := [3]) (by kernel_rfl) (by simp) ?_
          refine AllReadyH.cons rfl (fun K1 hK1 => ?_) AllReadyH.nil
          go_simp
          refine (HKO.out _ (HBW.out.trans (SW.mono HBW.out.size))).mono ?_
          rintro r w5 ⟨rfl, hw⟩
          subst w5
          refine hK1.out _ _ SW (fun SW => ?_)
          clear hK1 K1
          go_simp
          refine wpAnyH_take (i := 4) (v := .bool true) rfl (by kernel_rfl) (by kernel_rfl) (by kernel_rfl) (fun _ _ _ h => h) (Or.inl ⟨by rfl, ?_⟩) SW ?_
          · intro W5 hW5
            go_simp <;> first | done | rfl | (rw [IntKind.wrap_i64]; omega) | omega
          go_simp
          refine wpAnyH_take (i := 5) (v := .bool true) rfl (by kernel_rfl) (by kernel_rfl) (by kernel_rfl) (fun _ _ _ h => h) (Or.inl ⟨by rfl, ?_⟩) SW ?_
          · intro W5 hW5
            go_simp <;> first | done | rfl | (rw [IntKind.wrap_i64]; omega) | omega
          go_simp
          refine wpAnyH_take (i := 6) (v := .pointer (some ⟨w.heap.size, 0, none⟩)) rfl (by kernel_rfl) (by kernel_rfl) (by kernel_rfl) (fun _ _ _ h => h) (Or.inl ⟨by rfl, ?_⟩) SW ?_
          · intro W5 hW5
            go_simp <;> first | done | rfl | (rw [IntKind.wrap_i64]; omega) | omega
          go_simp
          refine wpAnyH_take (i := 7) (v := .int .i64 (x : Nat)) rfl (by kernel_rfl) (by kernel_rfl) (by kernel_rfl) (fun _ _ _ h => h) (Or.inl ⟨by rfl, ?_⟩) SW ?_
          · intro W5 hW5
            have y0 := (HMV.out W5 (HBW.out.trans (hW5.mono HBW.out.size))).cell (i := 0) rfl
            go_simp <;> first | done | rfl | (rw [IntKind.wrap_i64]; omega) | omega
          go_simp
          refine wpAnyH_take (i := 8) (v := .pointer (some ⟨wr.heap.size, 1, none⟩)) rfl (by kernel_rfl) (by kernel_rfl) (by kernel_rfl) (fun _ _ _ h => h) (Or.inl ⟨by rfl, ?_⟩) SW ?_
          · intro W5 hW5
            go_simp <;> first | done | rfl | (rw [IntKind.wrap_i64]; omega) | omega
          go_simp
          refine wpAnyH_take (i := 9) (v := .int .i64 (ki : Nat)) rfl (by kernel_rfl) (by kernel_rfl) (by kernel_rfl) (fun _ _ _ h => h) (Or.inl ⟨by rfl, ?_⟩) SW ?_
          · intro W5 hW5
            have z1 := (HC2.out W5 hW5).cell (i := 1) rfl
            go_simp <;> first | done | rfl | (rw [IntKind.wrap_i64]; omega) | omega
          go_simp
          refine wpAnyH_take (i := 10) (v := .bool false) rfl (by kernel_rfl) (by kernel_rfl) (by kernel_rfl) (fun _ _ _ h => h) (Or.inl ⟨by rfl, ?_⟩) SW ?_
          · intro W5 hW5
            go_simp <;> first | done | rfl | (rw [IntKind.wrap_i64]; omega) | omega
          go_simp
          refine wpAnyH_take (i := 11) (v := .bool false) rfl (by kernel_rfl) (by kernel_rfl) (by kernel_rfl) (fun _ _ _ h => h) (Or.inl ⟨by rfl, ?_⟩) SW ?_
          · intro W5 hW5
            go_simp <;> first | done | rfl | (rw [IntKind.wrap_i64]; omega) | omega
          go_simp
          refine wpAnyH_take (i := 12) (v := .bool false) rfl (by kernel_rfl) (by kernel_rfl) (by kernel_rfl) (fun _ _ _ h => h) (Or.inl ⟨by rfl, ?_⟩) SW ?_
          · intro W5 hW5
            go_simp <;> first | done | rfl | (rw [IntKind.wrap_i64]; omega) | omega
          go_simp
          refine wpAnyH_take (i := 13) (v := undef) rfl (by kernel_rfl) (by kernel_rfl) (by kernel_rfl) (fun _ _ _ h => h) (Or.inr ⟨by rfl, rfl⟩) SW ?_
          go_simp
          refine wpAnyH_take (i := 14) (v := undef) rfl (by kernel_rfl) (by kernel_rfl) (by kernel_rfl) (fun _ _ _ h => h) (Or.inr ⟨by rfl, rfl⟩) SW ?_
          go_simp
          refine wpAnyH_take (i := 15) (v := undef) rfl (by kernel_rfl) (by kernel_rfl) (by kernel_rfl) (fun _ _ _ h => h) (Or.inr ⟨by rfl, rfl⟩) SW ?_
          go_simp
          refine wpAnyH_take (i := 16) (v := undef) rfl (by kernel_rfl) (by kernel_rfl) (by kernel_rfl) (fun _ _ _ h => h) (Or.inr ⟨by rfl, rfl⟩) SW ?_
          go_simp
          refine wpAnyH_take (i := 17) (v := undef) rfl (by kernel_rfl) (by kernel_rfl) (by kernel_rfl) (fun _ _ _ h => h) (Or.inr ⟨by rfl, rfl⟩) SW ?_
          go_simp
          refine wpAnyH_take (i := 18) (v := .bool false) rfl (by kernel_rfl) (by kernel_rfl) (by kernel_rfl) (fun _ _ _ h => h) (Or.inl ⟨by rfl, ?_⟩) SW ?_
          · intro W5 hW5
            go_simp <;> first | done | rfl | (rw [IntKind.wrap_i64]; omega) | omega
          go_simp
          refine wpAnyH_done (by kernel_rfl) ?_ _
          have HBE : Hid (Below w1.heap.size w1 _) := hide (HBW.out.trans (SW.mono HBW.out.size))
          clear SW
          go_wp2_with fail
          exact ⟨⟨i + 1, by go_num, by omega, HNX, HBE⟩, by simp [intOf]; omega⟩
      · have b6 : ((m : Int) == 6) = false := by simp; omega
        have HNX := hide (HNI.out (by rw [HCI.out]; simp [h6]))
        clear HCI HNI HYI
        refine wp_region_held (S := fun W5 => Below w2.heap.size w2 W5) (by kernel_rfl) ?_
        change wpAnyH _ _ _ _ _ _ _ _ (World.drew _)
        have SW : Below w2.heap.size w2 w2.drew := (Below.refl _ _).drew
        refine wpAnyH_take (i := 0) (v := .pointer (some ⟨b, 0, none⟩)) rfl (by kernel_rfl) (by kernel_rfl) (by kernel_rfl) (fun _ _ _ h => h) (Or.inl ⟨by rfl, ?_⟩) SW ?_
        · intro W5 hW5
          go_simp <;> first | done | rfl | (rw [IntKind.wrap_i64]; omega) | omega
        go_simp
        refine wpAnyH_take (i := 1) (v := .pointer (some ⟨w.heap.size, 0, none⟩)) rfl (by kernel_rfl) (by kernel_rfl) (by kernel_rfl) (fun _ _ _ h => h) (Or.inl ⟨by rfl, ?_⟩) SW ?_
        · intro W5 hW5
          go_simp <;> first | done | rfl | (rw [IntKind.wrap_i64]; omega) | omega
        go_simp
        refine wpAnyH_take (i := 2) (v := .int .i64 (x : Nat)) rfl (by kernel_rfl) (by kernel_rfl) (by kernel_rfl) (fun _ _ _ h => h) (Or.inl ⟨by rfl, ?_⟩) SW ?_
        · intro W5 hW5
          have y0 := (HMV.out W5 (HBW.out.trans (hW5.mono HBW.out.size))).cell (i := 0) rfl
          go_simp <;> first | done | rfl | (rw [IntKind.wrap_i64]; omega) | omega
        go_simp
        refine wpAnyH_ready (rs := [3]) (by kernel_rfl) (by simp) ?_
        refine AllReadyH.cons rfl (fun K1 hK1 => ?_) AllReadyH.nil
        go_simp
        refine (HKO.out _ (HBW.out.trans (SW.mono HBW.out.size))).mono ?_
        rintro r w5 ⟨rfl, hw⟩
        subst w5
        refine hK1.out _ _ SW (fun SW => ?_)
        clear hK1 K1
        go_simp
        refine wpAnyH_take (i := 4) (v := .bool false) rfl (by kernel_rfl) (by kernel_rfl) (by kernel_rfl) (fun _ _ _ h => h) (Or.inl ⟨by rfl, ?_⟩) SW ?_
        · intro W5 hW5
          go_simp <;> first | done | rfl | (rw [IntKind.wrap_i64]; omega) | omega
        go_simp
        refine wpAnyH_take (i := 5) (v := .bool false) rfl (by kernel_rfl) (by kernel_rfl) (by kernel_rfl) (fun _ _ _ h => h) (Or.inl ⟨by rfl, ?_⟩) SW ?_
        · intro W5 hW5
          go_simp <;> first | done | rfl | (rw [IntKind.wrap_i64]; omega) | omega
        go_simp
        refine wpAnyH_take (i := 6) (v := undef) rfl (by kernel_rfl) (by kernel_rfl) (by kernel_rfl) (fun _ _ _ h => h) (Or.inr ⟨by rfl, rfl⟩) SW ?_
        go_simp
        refine wpAnyH_take (i := 7) (v := undef) rfl (by kernel_rfl) (by kernel_rfl) (by kernel_rfl) (fun _ _ _ h => h) (Or.inr ⟨by rfl, rfl⟩) SW ?_
        go_simp
        refine wpAnyH_take (i := 8) (v := undef) rfl (by kernel_rfl) (by kernel_rfl) (by kernel_rfl) (fun _ _ _ h => h) (Or.inr ⟨by rfl, rfl⟩) SW ?_
        go_simp
        refine wpAnyH_take (i := 9) (v := undef) rfl (by kernel_rfl) (by kernel_rfl) (by kernel_rfl) (fun _ _ _ h => h) (Or.inr ⟨by rfl, rfl⟩) SW ?_
        go_simp
        refine wpAnyH_take (i := 10) (v := undef) rfl (by kernel_rfl) (by kernel_rfl) (by kernel_rfl) (fun _ _ _ h => h) (Or.inr ⟨by rfl, rfl⟩) SW ?_
        go_simp
        refine wpAnyH_take (i := 11) (v := .bool false) rfl (by kernel_rfl) (by kernel_rfl) (by kernel_rfl) (fun _ _ _ h => h) (Or.inl ⟨by rfl, ?_⟩) SW ?_
        · intro W5 hW5
          go_simp <;> first | done | rfl | (rw [IntKind.wrap_i64]; omega) | omega
        go_simp
        refine wpAnyH_take (i := 12) (v := .bool false) rfl (by kernel_rfl) (by kernel_rfl) (by kernel_rfl) (fun _ _ _ h => h) (Or.inl ⟨by rfl, ?_⟩) SW ?_
        · intro W5 hW5
          go_simp <;> first | done | rfl | (rw [IntKind.wrap_i64]; omega) | omega
        go_simp
        refine wpAnyH_take (i := 13) (v := undef) rfl (by kernel_rfl) (by kernel_rfl) (by kernel_rfl) (fun _ _ _ h => h) (Or.inr ⟨by rfl, rfl⟩) SW ?_
        go_simp
        refine wpAnyH_take (i := 14) (v := undef) rfl (by kernel_rfl) (by kernel_rfl) (by kernel_rfl) (fun _ _ _ h => h) (Or.inr ⟨by rfl, rfl⟩) SW ?_
        go_simp
        refine wpAnyH_take (i := 15) (v := undef) rfl (by kernel_rfl) (by kernel_rfl) (by kernel_rfl) (fun _ _ _ h => h) (Or.inr ⟨by rfl, rfl⟩) SW ?_
        go_simp
        refine wpAnyH_take (i := 16) (v := undef) rfl (by kernel_rfl) (by kernel_rfl) (by kernel_rfl) (fun _ _ _ h => h) (Or.inr ⟨by rfl, rfl⟩) SW ?_
        go_simp
        refine wpAnyH_take (i := 17) (v := undef) rfl (by kernel_rfl) (by kernel_rfl) (by kernel_rfl) (fun _ _ _ h => h) (Or.inr ⟨by rfl, rfl⟩) SW ?_
        go_simp
        refine wpAnyH_take (i := 18) (v := .bool false) rfl (by kernel_rfl) (by kernel_rfl) (by kernel_rfl) (fun _ _ _ h => h) (Or.inl ⟨by rfl, ?_⟩) SW ?_
        · intro W5 hW5
          go_simp <;> first | done | rfl | (rw [IntKind.wrap_i64]; omega) | omega
        go_simp
        refine wpAnyH_done (by kernel_rfl) ?_ _
        have HBE : Hid (Below w1.heap.size w1 _) := hide (HBW.out.trans (SW.mono HBW.out.size))
        clear SW
        go_wp2_with fail
        exact ⟨⟨i + 1, by go_num, by omega, HNX, HBE⟩, by simp [intOf]; omega⟩
    · obtain rfl : i = 4 := by omega
      have hR := HRN.out hall.out
      subst hR
      have VR := HRV.out wr hbl.out
      have r0 := VR.cell (i := 0) rfl
      have r1 := VR.cell (i := 1) rfl
      have r2 := VR.cell (i := 2) rfl
      have f0 := VR.frozen 0
      have f1 := VR.frozen 1
      have f2 := VR.frozen 2
      go_wp2_with fail
      have V9 : Vb ((((wr).setCell ⟨w.heap.size + 1, 0, none⟩ (.int .i64 0)).setCell ⟨w.heap.size + 1, 1, none⟩ (.int .i64 0)).setCell ⟨w.heap.size + 1, 2, none⟩ (.int .i64 0)) (w.heap.size + 1) 106 [.int .i64 0, .int .i64 0, .int .i64 0] := ((VR.set 0 _).set 1 _).set 2 _
      have b0 : Below w.heap.size w wr := HB1.out.trans (hbl.out.mono HB1.out.size)
      have b3 := ((b0.setCell (p := ⟨w.heap.size + 1, 0, none⟩) (Nat.le_succ _) (.int .i64 0)).setCell (p := ⟨w.heap.size + 1, 1, none⟩) (Nat.le_succ _) (.int .i64 0)).setCell (p := ⟨w.heap.size + 1, 2, none⟩) (Nat.le_succ _) (.int .i64 0)
      exact bodyPost_ret (results_rt rfl _ _ (w.heap.size + 1) rfl rfl (run_loadVar_row _ _ 106 106 _ (0, 0) _ V9 Tryz.underlying106 rfl size105)) rfl ⟨rfl, b3⟩

end Go.Proofs.YtdmlamnonbmboaaGreatDoor
