/-
  Chess: the state behind a move: walked. No conditions beyond those that each theorem bears.
-/
import Derived.Test.YtdmlamnonbmboaaGreatDoorV32
namespace Go.Proofs.YtdmlamnonbmboaaGreatDoor
open Go.RowKit Go.Shelf

/-- A position in a block. -/
def stP (p : Ps) : List Int := stL p.Z (p.t : Nat) (p.k : Nat) p.e (p.h : Nat) (p.f : Nat)
abbrev Sp (w : World) (b : Nat) (p : Ps) : Prop := Sb w b p.Z (p.t : Nat) (p.k : Nat) p.e (p.h : Nat) (p.f : Nat)
theorem stL_len {Z : List Int} (h : Z.length = 64) (t k e hh f : Int) : (ivs (stL Z t k e hh f)).length = 69 := by rw [ivs_length]; unfold stL; simp [h]
theorem zr69_new (w : World) : Vb (w.alloc (.cells Tryz.zeroCells48 48)) w.heap.size 48 (ivs (stL zr64 0 0 0 0 0)) := by
  have h : (ivs (stL zr64 0 0 0 0 0)).toArray = Tryz.zeroCells48 := by kernel_rfl
  rw [← h]
  exact Vb.new w 48 _
theorem Vb.setRow {w : World} {b t : Nat} {L : List Value} (h : Vb w b t L) (M : List Value) : Vb (w.setRow b M.toArray) b t M := by
  have h' : w.heap[b]? = _ := h
  simp [Vb, World.setRow, Array.getElem?_modify, h']
theorem Keeps.setRow (w : World) (b : Nat) (M : List Value) : Keeps (fun k => k = b) w (w.setRow b M.toArray) :=
  ⟨rfl, rfl, rfl, by simp [World.setRow], fun k _ hk => by simp [World.setRow, Array.getElem?_modify, show ¬ b = k from fun e => hk e.symm]⟩
theorem stL_67 {Z : List Int} (h : Z.length = 64) (t k e hh f v : Int) : (stL Z t k e hh f).set 67 v = stL Z t k e v f := by
  unfold stL
  rw [List.set_append_right _ _ (by omega), h]
  rfl
theorem stL_68 {Z : List Int} (h : Z.length = 64) (t k e hh f v : Int) : (stL Z t k e hh f).set 68 v = stL Z t k e hh v := by
  unfold stL
  rw [List.set_append_right _ _ (by omega), h]
  rfl

theorem bk_nat {Z : List Int} {t : Nat} {e : Int} {q : Nat} (ht : t ≤ 1) (hP : Pas Z t e) (hqe : (q : Int) = e) : (q : Int) - pci t 8 = ((bk t q : Nat) : Int) := by
  have h8 : pci t 8 = fw t := rfl
  unfold Pas at hP
  unfold bk
  rw [h8]
  have hf : fw t = if t = 0 then 8 else -8 := by
    rcases (show t = 0 ∨ t = 1 by omega) with rfl | rfl <;> rfl
  rw [hf]
  split <;> omega

theorem exec_build {ρ : Operand → Value} {o : Oper} {t : TypeId} {parts : Array (Nat × Operand)} {cells : Array Value} (ho : o.op = .build t parts)
    (hc : Tryz.prog.built t (parts.map fun (i, x) => (i, ρ x)).toList = some cells) (w : World) : (execOp ρ o).run Tryz.prog w = .ok (.value (.agg cells)) w := by
  unfold execOp
  simp only [ho, Sem.run_bind, run_build w t _ cells hc, Result.andThen_ok]
  rfl

theorem exec_build6 {ρ : Operand → Value} {o : Oper} {t : TypeId} {x0 x1 x2 x3 x4 x5 : Operand} {v0 v1 v2 v3 v4 v5 : Value} {cells : Array Value} (ho : o.op = .build t #[(0, x0), (1, x1), (2, x2), (3, x3), (4, x4), (5, x5)])
    (h0 : ρ x0 = v0) (h1 : ρ x1 = v1) (h2 : ρ x2 = v2) (h3 : ρ x3 = v3) (h4 : ρ x4 = v4) (h5 : ρ x5 = v5)
    (hc : Tryz.prog.built t [(0, v0), (1, v1), (2, v2), (3, v3), (4, v4), (5, v5)] = some cells) (w : World) : (execOp ρ o).run Tryz.prog w = .ok (.value (.agg cells)) w :=
  exec_build ho (by subst h0 h1 h2 h3 h4 h5; simpa using hc) w

attribute [local irreducible] mvZ cI tkB psI lsN anN

set_option maxRecDepth 100000 in
set_option maxHeartbeats 8000000 in
theorem after_any (b : Nat) (p : Ps) (hM : MayP p) (m : Nat × Nat × Nat) (hO : MvOk p m) (w : World) (hs : Sp w b p) :
    Calls Tryz.prog 21 #[.pointer (some ⟨b, 0, none⟩), .agg (mvC m).toArray] w fun r w' => r = .returned (.agg (ivs (stP (nxP p m))).toArray) ∧ Below w.heap.size w w' := by
  have hz := hM.st.pz
  have ht := hM.t1
  have hn := inB_lt hO.inn
  have k16 : p.k < 16 := by have := hM.k15; omega
  have hbk : tkB p.Z p.e m.1 m.2.1 = true → bk p.t m.2.1 < 64 ∧ (m.2.1 : Int) - pci p.t 8 = ((bk p.t m.2.1 : Nat) : Int) := fun hk => by
    have := tk_at ht hM.st hM.pas hO.f hO.q hO.own hO.tg hk
    exact ⟨this.2.2.1, bk_nat ht hM.pas this.1⟩
  obtain ⟨hx, hq, _, _, _⟩ := hO
  have hh9 := hM.h9
  have hf9 := hM.f9
  obtain ⟨Z, t, k, e, h, f⟩ := p
  dsimp only at *
  have hM64 : (mvZ Z t e m.1 m.2.1 m.2.2).length = 64 := by rw [mvZ_len]; exact hs.1
  obtain ⟨g, hg⟩ : ∃ g, w.heap.size = g := ⟨_, rfl⟩
  obtain ⟨w1, hw1⟩ : ∃ w1, (w.alloc (.cells #[.int .i64 (m.1 : Nat), .int .i64 (m.2.1 : Nat), .int .i64 (m.2.2 : Nat)] 32)).alloc (.cells Tryz.zeroCells48 48) = w1 := ⟨_, rfl⟩
  have s1 : w1.heap.size = g + 2 := by rw [← hw1, ← hg]; simp
  have B1 : Below w.heap.size w w1 := by rw [← hw1]; exact ((Below.refl _ w).alloc (Nat.le_refl _) _).alloc (by simp) _
  have V1 : Vb w1 g 32 (mvC m) := by rw [← hw1, ← hg]; exact (Vb.new w 32 _).old _
  have R1 : Vb w1 (g + 1) 48 (ivs (stL zr64 0 0 0 0 0)) := by
    rw [← hw1, ← hg]
    have := zr69_new (w.alloc (.cells #[.int .i64 (m.1 : Nat), .int .i64 (m.2.1 : Nat), .int .i64 (m.2.2 : Nat)] 32))
    rw [World.size_alloc] at this
    exact this
  have HS1 : Hid (∀ W, Below w1.heap.size w1 W → Sb W b Z (t : Nat) (k : Nat) e (h : Nat) (f : Nat)) := hide (fun W hb => (hs.mono B1).mono hb)
  have HM1 : Hid (∀ W, Below w1.heap.size w1 W → Vb W g 32 (mvC m)) := hide (fun W hb => V1.mono hb)
  have HR1 : Hid (∀ W, Below w1.heap.size w1 W → Vb W (g + 1) 48 (ivs (stL zr64 0 0 0 0 0))) := hide (fun W hb => R1.mono hb)
  have HPA : Hid (∀ W, Below w1.heap.size w1 W → Calls Tryz.prog 49 #[.pointer (some ⟨b, 0, none⟩), .agg #[.int .i64 (m.1 : Nat), .int .i64 (m.2.1 : Nat), .int .i64 (m.2.2 : Nat)]] W fun r w' => r = .returned (.agg (ivs (mvZ Z t e m.1 m.2.1 m.2.2)).toArray) ∧ Below W.heap.size W w') := hide (fun W hb => placesAfter_any b Z t k e h f hz m.1 m.2.1 m.2.2 hx hq (by omega) hbk W ((hs.mono B1).mono hb))
  have HOT := hide (other_any t ht)
  have HRL := hide (rightsLost_any m.1 m.2.1 m.2.2)
  have HPB : Hid (∀ W, Below w1.heap.size w1 W → Calls Tryz.prog 51 #[.pointer (some ⟨b, 0, none⟩), .agg #[.int .i64 (m.1 : Nat), .int .i64 (m.2.1 : Nat), .int .i64 (m.2.2 : Nat)]] W fun r w' => r = .returned (.int .i64 (psI Z t m.1 m.2.1)) ∧ Below W.heap.size W w') := hide (fun W hb => passedBy_any b Z t k e h f hz m.1 m.2.1 m.2.2 hx W ((hs.mono B1).mono hb))
  have HKO : Hid (∀ W, Below w1.heap.size w1 W → Calls Tryz.prog 52 #[.pointer (some ⟨b, 0, none⟩), .int .i64 (m.1 : Nat)] W fun r w' => r = .returned (.int .i64 ((zg Z m.1).natAbs : Nat)) ∧ w' = W) := hide (fun W hb => kindOn_any b Z t k e h f hz m.1 hx W ((hs.mono B1).mono hb))
  have HEM : Hid (∀ W, Below w1.heap.size w1 W → Calls Tryz.prog 53 #[.pointer (some ⟨b, 0, none⟩), .int .i64 (m.2.1 : Nat)] W fun r w' => r = .returned (.bool (zg Z m.2.1 == 0)) ∧ w' = W) := hide (fun W hb => empty_any b Z t k e h f m.2.1 hq W ((hs.mono B1).mono hb))
  have HLS : Hid (bits BinOp.andNot .i64 ((k : Nat) : Int) ((lsN m.1 m.2.1 4 : Nat) : Int) = ((anN k (lsN m.1 m.2.1 4) : Nat) : Int)) := hide (bits_an k16 (ls_lt m.1 m.2.1))
  obtain ⟨M, hMM⟩ : ∃ M, mvZ Z t e m.1 m.2.1 m.2.2 = M := ⟨_, rfl⟩
  obtain ⟨e', he'⟩ : ∃ e', psI Z t m.1 m.2.1 = e' := ⟨_, rfl⟩
  obtain ⟨ls, hls⟩ : ∃ ls, lsN m.1 m.2.1 4 = ls := ⟨_, rfl⟩
  obtain ⟨k', hk'⟩ : ∃ k', anN k ls = k' := ⟨_, rfl⟩
  obtain ⟨h1, hh1⟩ : ∃ h1, min (h + 1) 999 = h1 := ⟨_, rfl⟩
  have HH1 : Hid ((if (999 : Int) < (h : Int) + 1 then (999 : Int) else (h : Int) + 1) = ((h1 : Nat) : Int)) := hide (by rw [← hh1]; split <;> omega)
  have HRES : Hid (nxP ⟨Z, t, k, e, h, f⟩ m = ⟨M, 1 - t, k', e', if (zg Z m.1).natAbs = 1 ∨ zg Z m.2.1 ≠ 0 then 0 else h1, if t = 1 then min (f + 1) 999 else f⟩) := hide (by
    unfold nxP hfN fuN; dsimp only; rw [hMM, he', hls, hk', hh1])
  rw [hMM] at HPA hM64
  rw [he'] at HPB
  rw [hls] at HRL HLS
  rw [hk'] at HLS
  have HL64 := hide hM64
  have HBU := hide (built53_full hM64 ((1 - t : Nat) : Int) ((k' : Nat) : Int) e' ((h1 : Nat) : Int) ((f : Nat) : Int))
  obtain ⟨V0, hV0⟩ : ∃ V0, (ivs (stL M ((1 - t : Nat) : Int) ((k' : Nat) : Int) e' ((h1 : Nat) : Int) ((f : Nat) : Int))).toArray = V0 := ⟨_, rfl⟩
  rw [hV0] at HBU
  have HSZ : Hid ((Tryz.prog.info? 48).map (·.size) = some V0.size ∧ (ivs (stL zr64 0 0 0 0 0)).toArray.size = V0.size ∧ V0.all (·.oneCell') = true ∧ (ivs (stL M ((1 - t : Nat) : Int) ((k' : Nat) : Int) e' ((h1 : Nat) : Int) ((f : Nat) : Int))).toArray = V0) := hide (by
    have e1 : V0.size = 69 := by rw [← hV0, List.size_toArray, stL_len hM64]
    exact ⟨by rw [e1]; exact row53.s, by rw [e1, List.size_toArray, stL_len zr64_len], by rw [← hV0]; exact ivs_one _, hV0⟩)
  clear hV0
  have HB1 := hide B1
  have HG := hide hg
  have hh' : (h : Int) ≤ 999 := by omega
  have hf' : (f : Int) ≤ 999 := by omega
  have hX1 := HS1.out
  clear hs s1 B1 V1 R1 hz hbk hM hx hq hMM he' hls hk' hh1 hn k16 hX1
  try rw [hg]
  go_enter Tryz.func21, Tryz.ntmps21
  go_upto_region 1 with fail
  try rw [hg]
  clear hw1
  go_cut [5] from 6 (fun s wc => ∃ d, s = .pointer (some ⟨d, 0, none⟩) ∧ Hid (Vb wc d 48 (ivs (stL M ((1 - t : Nat) : Int) ((k' : Nat) : Int) e' ((h1 : Nat) : Int) ((f : Nat) : Int))) ∧ Below w1.heap.size w1 wc ∧ w1.heap.size ≤ d))
  case first =>
    refine wp_region_held (S := fun W5 => Below w1.heap.size w1 W5) (by kernel_rfl) ?_
    change wpAnyH _ _ _ _ _ _ _ _ (World.drew _)
    have SW : (fun W5 => Below w1.heap.size w1 W5) w1.drew := (Below.refl _ _).drew
    generalize w1.drew = wd at *
    refine wpAnyH_take (i := 0) (v := .pointer (some ⟨b, 0, none⟩)) rfl (by kernel_rfl) (by kernel_rfl) (by kernel_rfl) (fun _ _ _ h => h) (Or.inl ⟨by rfl, ?_⟩) SW ?_
    · intro W5 hW5
      go_simp <;> first | done | rfl | (rw [IntKind.wrap_i64]; omega) | omega
    go_simp
    refine wpAnyH_take (i := 1) (v := .agg (mvC m).toArray) rfl (by kernel_rfl) (by kernel_rfl) (by kernel_rfl) (fun _ _ _ h => h) (yieldsIf_load_mid (by rfl) 32 _ rfl g 0 (by rfl) (mvC m) _ (fun W5 hW5 => (HM1.out W5 hW5).range) Tryz.underlying32 rfl size26) SW ?_
    go_simp
    refine wpAnyH_take (i := 3) (v := .pointer (some ⟨b, 0, none⟩)) rfl (by kernel_rfl) (by kernel_rfl) (by kernel_rfl) (fun _ _ _ h => h) (Or.inl ⟨by rfl, ?_⟩) SW ?_
    · intro W5 hW5
      go_simp <;> first | done | rfl | (rw [IntKind.wrap_i64]; omega) | omega
    go_simp
    refine wpAnyH_take (i := 4) (v := .pointer (some ⟨b, 0, none⟩)) rfl (by kernel_rfl) (by kernel_rfl) (by kernel_rfl) (fun _ _ _ h => h) (Or.inl ⟨by rfl, ?_⟩) SW ?_
    · intro W5 hW5
      go_simp <;> first | done | rfl | (rw [IntKind.wrap_i64]; omega) | omega
    go_simp
    refine wpAnyH_take (i := 5) (v := .pointer (some ⟨b, 64, none⟩)) rfl (by kernel_rfl) (by kernel_rfl) (by kernel_rfl) (fun _ _ _ h => h) (Or.inl ⟨by rfl, ?_⟩) SW ?_
    · intro W5 hW5
      go_simp <;> first | done | rfl | (rw [IntKind.wrap_i64]; omega) | omega
    go_simp
    refine wpAnyH_take (i := 6) (v := .int .i64 (t : Nat)) rfl (by kernel_rfl) (by kernel_rfl) (by kernel_rfl) (fun _ _ _ h => h) (Or.inl ⟨by rfl, ?_⟩) SW ?_
    · intro W5 hW5
      have y0 := (HS1.out W5 hW5).ends.1
      go_simp <;> first | done | rfl | (rw [IntKind.wrap_i64]; omega) | omega
    go_simp
    refine wpAnyH_take (i := 8) (v := .pointer (some ⟨b, 0, none⟩)) rfl (by kernel_rfl) (by kernel_rfl) (by kernel_rfl) (fun _ _ _ h => h) (Or.inl ⟨by rfl, ?_⟩) SW ?_
    · intro W5 hW5
      go_simp <;> first | done | rfl | (rw [IntKind.wrap_i64]; omega) | omega
    go_simp
    refine wpAnyH_take (i := 9) (v := .pointer (some ⟨b, 0, none⟩)) rfl (by kernel_rfl) (by kernel_rfl) (by kernel_rfl) (fun _ _ _ h => h) (Or.inl ⟨by rfl, ?_⟩) SW ?_
    · intro W5 hW5
      go_simp <;> first | done | rfl | (rw [IntKind.wrap_i64]; omega) | omega
    go_simp
    refine wpAnyH_take (i := 10) (v := .pointer (some ⟨b, 65, none⟩)) rfl (by kernel_rfl) (by kernel_rfl) (by kernel_rfl) (fun _ _ _ h => h) (Or.inl ⟨by rfl, ?_⟩) SW ?_
    · intro W5 hW5
      go_simp <;> first | done | rfl | (rw [IntKind.wrap_i64]; omega) | omega
    go_simp
    refine wpAnyH_take (i := 11) (v := .int .i64 (k : Nat)) rfl (by kernel_rfl) (by kernel_rfl) (by kernel_rfl) (fun _ _ _ h => h) (Or.inl ⟨by rfl, ?_⟩) SW ?_
    · intro W5 hW5
      have y0 := (HS1.out W5 hW5).ends.2.1
      go_simp <;> first | done | rfl | (rw [IntKind.wrap_i64]; omega) | omega
    go_simp
    refine wpAnyH_take (i := 12) (v := .agg (mvC m).toArray) rfl (by kernel_rfl) (by kernel_rfl) (by kernel_rfl) (fun _ _ _ h => h) (yieldsIf_load_mid (by rfl) 32 _ rfl g 0 (by rfl) (mvC m) _ (fun W5 hW5 => (HM1.out W5 hW5).range) Tryz.underlying32 rfl size26) SW ?_
    go_simp
    refine wpAnyH_take (i := 15) (v := .pointer (some ⟨b, 0, none⟩)) rfl (by kernel_rfl) (by kernel_rfl) (by kernel_rfl) (fun _ _ _ h => h) (Or.inl ⟨by rfl, ?_⟩) SW ?_
    · intro W5 hW5
      go_simp <;> first | done | rfl | (rw [IntKind.wrap_i64]; omega) | omega
    go_simp
    refine wpAnyH_take (i := 16) (v := .agg (mvC m).toArray) rfl (by kernel_rfl) (by kernel_rfl) (by kernel_rfl) (fun _ _ _ h => h) (yieldsIf_load_mid (by rfl) 32 _ rfl g 0 (by rfl) (mvC m) _ (fun W5 hW5 => (HM1.out W5 hW5).range) Tryz.underlying32 rfl size26) SW ?_
    go_simp
    refine wpAnyH_take (i := 18) (v := .pointer (some ⟨b, 0, none⟩)) rfl (by kernel_rfl) (by kernel_rfl) (by kernel_rfl) (fun _ _ _ h => h) (Or.inl ⟨by rfl, ?_⟩) SW ?_
    · intro W5 hW5
      go_simp <;> first | done | rfl | (rw [IntKind.wrap_i64]; omega) | omega
    go_simp
    refine wpAnyH_take (i := 19) (v := .pointer (some ⟨b, 0, none⟩)) rfl (by kernel_rfl) (by kernel_rfl) (by kernel_rfl) (fun _ _ _ h => h) (Or.inl ⟨by rfl, ?_⟩) SW ?_
    · intro W5 hW5
      go_simp <;> first | done | rfl | (rw [IntKind.wrap_i64]; omega) | omega
    go_simp
    refine wpAnyH_take (i := 20) (v := .pointer (some ⟨b, 67, none⟩)) rfl (by kernel_rfl) (by kernel_rfl) (by kernel_rfl) (fun _ _ _ h => h) (Or.inl ⟨by rfl, ?_⟩) SW ?_
    · intro W5 hW5
      go_simp <;> first | done | rfl | (rw [IntKind.wrap_i64]; omega) | omega
    go_simp
    refine wpAnyH_take (i := 21) (v := .int .i64 (h : Nat)) rfl (by kernel_rfl) (by kernel_rfl) (by kernel_rfl) (fun _ _ _ h => h) (Or.inl ⟨by rfl, ?_⟩) SW ?_
    · intro W5 hW5
      have y0 := (HS1.out W5 hW5).ends.2.2.2.1
      go_simp <;> first | done | rfl | (rw [IntKind.wrap_i64]; omega) | omega
    go_simp
    refine wpAnyH_take (i := 22) (v := .int .i64 ((h : Int) + 1)) rfl (by kernel_rfl) (by kernel_rfl) (by kernel_rfl) (fun _ _ _ h => h) (Or.inl ⟨by rfl, ?_⟩) SW ?_
    · intro W5 hW5
      go_simp <;> first | done | rfl | (rw [IntKind.wrap_i64]; omega) | omega
    go_simp
    refine wpAnyH_take (i := 23) (v := .int .i64 ((h1 : Nat) : Int)) rfl (by kernel_rfl) (by kernel_rfl) (by kernel_rfl) (fun _ _ _ h => h) (Or.inl ⟨by rfl, ?_⟩) SW ?_
    · intro W5 hW5
      have y0 := HH1.out
      go_simp <;> first | done | rfl | (rw [IntKind.wrap_i64]; omega) | omega
    go_simp
    refine wpAnyH_take (i := 24) (v := .pointer (some ⟨b, 0, none⟩)) rfl (by kernel_rfl) (by kernel_rfl) (by kernel_rfl) (fun _ _ _ h => h) (Or.inl ⟨by rfl, ?_⟩) SW ?_
    · intro W5 hW5
      go_simp <;> first | done | rfl | (rw [IntKind.wrap_i64]; omega) | omega
    go_simp
    refine wpAnyH_take (i := 25) (v := .pointer (some ⟨b, 0, none⟩)) rfl (by kernel_rfl) (by kernel_rfl) (by kernel_rfl) (fun _ _ _ h => h) (Or.inl ⟨by rfl, ?_⟩) SW ?_
    · intro W5 hW5
      go_simp <;> first | done | rfl | (rw [IntKind.wrap_i64]; omega) | omega
    go_simp
    refine wpAnyH_take (i := 26) (v := .pointer (some ⟨b, 68, none⟩)) rfl (by kernel_rfl) (by kernel_rfl) (by kernel_rfl) (fun _ _ _ h => h) (Or.inl ⟨by rfl, ?_⟩) SW ?_
    · intro W5 hW5
      go_simp <;> first | done | rfl | (rw [IntKind.wrap_i64]; omega) | omega
    go_simp
    refine wpAnyH_take (i := 27) (v := .int .i64 (f : Nat)) rfl (by kernel_rfl) (by kernel_rfl) (by kernel_rfl) (fun _ _ _ h => h) (Or.inl ⟨by rfl, ?_⟩) SW ?_
    · intro W5 hW5
      have y0 := (HS1.out W5 hW5).ends.2.2.2.2
      go_simp <;> first | done | rfl | (rw [IntKind.wrap_i64]; omega) | omega
    go_simp
    refine wpAnyH_ready (rs := [2, 29]) (by kernel_rfl) (by simp) ?_
    refine AllReadyH.cons rfl (fun K1 hK1 => ?_) (AllReadyH.cons rfl (fun K1 hK1 => ?_) AllReadyH.nil)
    · go_simp
      refine (HPA.out _ SW).mono ?_
      rintro r v2 ⟨rfl, hb⟩
      have SWb := SW.trans (hb.mono SW.size)
      refine hK1.out _ _ SWb (fun SW => ?_)
      clear hK1 K1 SWb hb
      go_simp
      refine wpAnyH_ready (rs := [7, 29]) (by kernel_rfl) (by simp) ?_
      refine AllReadyH.cons rfl (fun K1 hK1 => ?_) (AllReadyH.cons rfl (fun K1 hK1 => ?_) AllReadyH.nil)
      · go_simp
        refine (HOT.out _).mono ?_
        rintro r w5 ⟨rfl, hw⟩
        subst w5
        refine hK1.out _ _ SW (fun SW => ?_)
        clear hK1 K1
        go_simp
        refine wpAnyH_ready (rs := [13, 29]) (by kernel_rfl) (by simp) ?_
        refine AllReadyH.cons rfl (fun K1 hK1 => ?_) (AllReadyH.cons rfl (fun K1 hK1 => ?_) AllReadyH.nil)
        · go_simp
          refine (HRL.out _).mono ?_
          rintro r v13 ⟨rfl, hb⟩
          have SWb := SW.trans (hb.mono SW.size)
          refine hK1.out _ _ SWb (fun SW => ?_)
          clear hK1 K1 SWb hb
          go_simp
          refine wpAnyH_take (i := 14) (v := .int .i64 ((k' : Nat) : Int)) rfl (by kernel_rfl) (by kernel_rfl) (by kernel_rfl) (fun _ _ _ h => h) (Or.inl ⟨by rfl, ?_⟩) SW ?_
          · intro W5 hW5
            have y0 := HLS.out
            go_simp <;> first | done | rfl | (rw [IntKind.wrap_i64]; omega) | omega
          go_simp
          refine wpAnyH_ready (rs := [17, 29]) (by kernel_rfl) (by simp) ?_
          refine AllReadyH.cons rfl (fun K1 hK1 => ?_) (AllReadyH.cons rfl (fun K1 hK1 => ?_) AllReadyH.nil)
          · go_simp
            refine (HPB.out _ SW).mono ?_
            rintro r v17 ⟨rfl, hb⟩
            have SWb := SW.trans (hb.mono SW.size)
            refine hK1.out _ _ SWb (fun SW => ?_)
            clear hK1 K1 SWb hb
            go_simp
            refine wpAnyH_take (i := 28) (v := .agg V0) rfl (by kernel_rfl) (by kernel_rfl) (by kernel_rfl) (fun _ _ _ h => h) (Or.inl ⟨by rfl, ?_⟩) SW ?_
            · intro W5 hW5
              exact exec_build6 (x0 := .tmp 8) (x1 := .tmp 13) (x2 := .tmp 20) (x3 := .tmp 23) (x4 := .tmp 29) (x5 := .tmp 33) (by rfl) (by rfl) (by rfl) (by rfl) (by rfl) (by rfl) (by rfl) HBU.out W5
            go_simp
            refine wpAnyH_ready (rs := [29]) (by kernel_rfl) (by simp) ?_
            refine AllReadyH.cons rfl (fun K1 hK1 => ?_) AllReadyH.nil
            go_simp
            obtain ⟨d, hd⟩ : ∃ d, v17.heap.size = d := ⟨_, rfl⟩
            have VD : Vb (v17.alloc (.cells Tryz.zeroCells48 48)) d 48 (ivs (stL zr64 0 0 0 0 0)) := by rw [← hd]; exact zr69_new v17
            have hdl : w1.heap.size ≤ d := by rw [← hd]; exact SW.size
            have SWa : Below w1.heap.size w1 (v17.alloc (.cells Tryz.zeroCells48 48)) := SW.alloc SW.size _
            try rw [hd]
            refine hK1.out _ _ SWa (fun SW => ?_)
            clear hK1 K1 SWa
            generalize v17.alloc (.cells Tryz.zeroCells48 48) = wa at *
            clear hd
            go_simp
            refine wpAnyH_ready (rs := [30]) (by kernel_rfl) (by simp) ?_
            refine AllReadyH.cons rfl (fun K1 hK1 => ?_) AllReadyH.nil
            refine wp_store_row 48 (.tmp 5) (.tmp 34) (by rfl) d V0 (by rfl) (by rfl) 48 _ VD HSZ.out.1 HSZ.out.2.1 HSZ.out.2.2.1 ?_
            have VE : Vb (wa.setRow d V0) d 48 (ivs (stL M ((1 - t : Nat) : Int) ((k' : Nat) : Int) e' ((h1 : Nat) : Int) ((f : Nat) : Int))) := by rw [← HSZ.out.2.2.2]; exact VD.setRow _
            have KE : Keeps (fun k => k = d) wa (wa.setRow d V0) := by rw [← HSZ.out.2.2.2]; exact Keeps.setRow wa d _
            have SWe := SW.trans (KE.below SW.size (fun j hj e => by omega))
            refine hK1.out _ _ SWe (fun SW => ?_)
            clear hK1 K1 SWe KE VD
            generalize World.setRow wa d V0 = we at *
            go_simp
            refine wpAnyH_done (by kernel_rfl) ?_ _
            go_wp2_with fail
            go_meet
            case rel => exact ⟨d, rfl, hide ⟨VE, SW, hdl⟩⟩
          · go_simp
            obtain ⟨d, hd⟩ : ∃ d, v13.heap.size = d := ⟨_, rfl⟩
            have VD : Vb (v13.alloc (.cells Tryz.zeroCells48 48)) d 48 (ivs (stL zr64 0 0 0 0 0)) := by rw [← hd]; exact zr69_new v13
            have hdl : w1.heap.size ≤ d := by rw [← hd]; exact SW.size
            have SWa : Below w1.heap.size w1 (v13.alloc (.cells Tryz.zeroCells48 48)) := SW.alloc SW.size _
            try rw [hd]
            refine hK1.out _ _ SWa (fun SW => ?_)
            clear hK1 K1 SWa
            generalize v13.alloc (.cells Tryz.zeroCells48 48) = wa at *
            clear hd
            go_simp
            refine wpAnyH_ready (rs := [17]) (by kernel_rfl) (by simp) ?_
            refine AllReadyH.cons rfl (fun K1 hK1 => ?_) AllReadyH.nil
            go_simp
            refine (HPB.out _ SW).mono ?_
            rintro r v17 ⟨rfl, hb⟩
            replace VD := VD.mono hb
            have SWb := SW.trans (hb.mono SW.size)
            refine hK1.out _ _ SWb (fun SW => ?_)
            clear hK1 K1 SWb hb
            go_simp
            refine wpAnyH_take (i := 28) (v := .agg V0) rfl (by kernel_rfl) (by kernel_rfl) (by kernel_rfl) (fun _ _ _ h => h) (Or.inl ⟨by rfl, ?_⟩) SW ?_
            · intro W5 hW5
              exact exec_build6 (x0 := .tmp 8) (x1 := .tmp 13) (x2 := .tmp 20) (x3 := .tmp 23) (x4 := .tmp 29) (x5 := .tmp 33) (by rfl) (by rfl) (by rfl) (by rfl) (by rfl) (by rfl) (by rfl) HBU.out W5
            go_simp
            refine wpAnyH_ready (rs := [30]) (by kernel_rfl) (by simp) ?_
            refine AllReadyH.cons rfl (fun K1 hK1 => ?_) AllReadyH.nil
            refine wp_store_row 48 (.tmp 5) (.tmp 34) (by rfl) d V0 (by rfl) (by rfl) 48 _ VD HSZ.out.1 HSZ.out.2.1 HSZ.out.2.2.1 ?_
            have VE : Vb (v17.setRow d V0) d 48 (ivs (stL M ((1 - t : Nat) : Int) ((k' : Nat) : Int) e' ((h1 : Nat) : Int) ((f : Nat) : Int))) := by rw [← HSZ.out.2.2.2]; exact VD.setRow _
            have KE : Keeps (fun k => k = d) v17 (v17.setRow d V0) := by rw [← HSZ.out.2.2.2]; exact Keeps.setRow v17 d _
            have SWe := SW.trans (KE.below SW.size (fun j hj e => by omega))
            refine hK1.out _ _ SWe (fun SW => ?_)
            clear hK1 K1 SWe KE VD
            generalize World.setRow v17 d V0 = we at *
            go_simp
            refine wpAnyH_done (by kernel_rfl) ?_ _
            go_wp2_with fail
            go_meet
            case rel => exact ⟨d, rfl, hide ⟨VE, SW, hdl⟩⟩
        · go_simp
          obtain ⟨d, hd⟩ : ∃ d, v2.heap.size = d := ⟨_, rfl⟩
          have VD : Vb (v2.alloc (.cells Tryz.zeroCells48 48)) d 48 (ivs (stL zr64 0 0 0 0 0)) := by rw [← hd]; exact zr69_new v2
          have hdl : w1.heap.size ≤ d := by rw [← hd]; exact SW.size
          have SWa : Below w1.heap.size w1 (v2.alloc (.cells Tryz.zeroCells48 48)) := SW.alloc SW.size _
          try rw [hd]
          refine hK1.out _ _ SWa (fun SW => ?_)
          clear hK1 K1 SWa
          generalize v2.alloc (.cells Tryz.zeroCells48 48) = wa at *
          clear hd
          go_simp
          refine wpAnyH_ready (rs := [13]) (by kernel_rfl) (by simp) ?_
          refine AllReadyH.cons rfl (fun K1 hK1 => ?_) AllReadyH.nil
          go_simp
          refine (HRL.out _).mono ?_
          rintro r v13 ⟨rfl, hb⟩
          replace VD := VD.mono hb
          have SWb := SW.trans (hb.mono SW.size)
          refine hK1.out _ _ SWb (fun SW => ?_)
          clear hK1 K1 SWb hb
          go_simp
          refine wpAnyH_take (i := 14) (v := .int .i64 ((k' : Nat) : Int)) rfl (by kernel_rfl) (by kernel_rfl) (by kernel_rfl) (fun _ _ _ h => h) (Or.inl ⟨by rfl, ?_⟩) SW ?_
          · intro W5 hW5
            have y0 := HLS.out
            go_simp <;> first | done | rfl | (rw [IntKind.wrap_i64]; omega) | omega
          go_simp
          refine wpAnyH_ready (rs := [17]) (by kernel_rfl) (by simp) ?_
          refine AllReadyH.cons rfl (fun K1 hK1 => ?_) AllReadyH.nil
          go_simp
          refine (HPB.out _ SW).mono ?_
          rintro r v17 ⟨rfl, hb⟩
          replace VD := VD.mono hb
          have SWb := SW.trans (hb.mono SW.size)
          refine hK1.out _ _ SWb (fun SW => ?_)
          clear hK1 K1 SWb hb
          go_simp
          refine wpAnyH_take (i := 28) (v := .agg V0) rfl (by kernel_rfl) (by kernel_rfl) (by kernel_rfl) (fun _ _ _ h => h) (Or.inl ⟨by rfl, ?_⟩) SW ?_
          · intro W5 hW5
            exact exec_build6 (x0 := .tmp 8) (x1 := .tmp 13) (x2 := .tmp 20) (x3 := .tmp 23) (x4 := .tmp 29) (x5 := .tmp 33) (by rfl) (by rfl) (by rfl) (by rfl) (by rfl) (by rfl) (by rfl) HBU.out W5
          go_simp
          refine wpAnyH_ready (rs := [30]) (by kernel_rfl) (by simp) ?_
          refine AllReadyH.cons rfl (fun K1 hK1 => ?_) AllReadyH.nil
          refine wp_store_row 48 (.tmp 5) (.tmp 34) (by rfl) d V0 (by rfl) (by rfl) 48 _ VD HSZ.out.1 HSZ.out.2.1 HSZ.out.2.2.1 ?_
          have VE : Vb (v17.setRow d V0) d 48 (ivs (stL M ((1 - t : Nat) : Int) ((k' : Nat) : Int) e' ((h1 : Nat) : Int) ((f : Nat) : Int))) := by rw [← HSZ.out.2.2.2]; exact VD.setRow _
          have KE : Keeps (fun k => k = d) v17 (v17.setRow d V0) := by rw [← HSZ.out.2.2.2]; exact Keeps.setRow v17 d _
          have SWe := SW.trans (KE.below SW.size (fun j hj e => by omega))
          refine hK1.out _ _ SWe (fun SW => ?_)
          clear hK1 K1 SWe KE VD
          generalize World.setRow v17 d V0 = we at *
          go_simp
          refine wpAnyH_done (by kernel_rfl) ?_ _
          go_wp2_with fail
          go_meet
          case rel => exact ⟨d, rfl, hide ⟨VE, SW, hdl⟩⟩
      · go_simp
        obtain ⟨d, hd⟩ : ∃ d, v2.heap.size = d := ⟨_, rfl⟩
        have VD : Vb (v2.alloc (.cells Tryz.zeroCells48 48)) d 48 (ivs (stL zr64 0 0 0 0 0)) := by rw [← hd]; exact zr69_new v2
        have hdl : w1.heap.size ≤ d := by rw [← hd]; exact SW.size
        have SWa : Below w1.heap.size w1 (v2.alloc (.cells Tryz.zeroCells48 48)) := SW.alloc SW.size _
        try rw [hd]
        refine hK1.out _ _ SWa (fun SW => ?_)
        clear hK1 K1 SWa
        generalize v2.alloc (.cells Tryz.zeroCells48 48) = wa at *
        clear hd
        go_simp
        refine wpAnyH_ready (rs := [7]) (by kernel_rfl) (by simp) ?_
        refine AllReadyH.cons rfl (fun K1 hK1 => ?_) AllReadyH.nil
        go_simp
        refine (HOT.out _).mono ?_
        rintro r w5 ⟨rfl, hw⟩
        subst w5
        refine hK1.out _ _ SW (fun SW => ?_)
        clear hK1 K1
        go_simp
        refine wpAnyH_ready (rs := [13]) (by kernel_rfl) (by simp) ?_
        refine AllReadyH.cons rfl (fun K1 hK1 => ?_) AllReadyH.nil
        go_simp
        refine (HRL.out _).mono ?_
        rintro r v13 ⟨rfl, hb⟩
        replace VD := VD.mono hb
        have SWb := SW.trans (hb.mono SW.size)
        refine hK1.out _ _ SWb (fun SW => ?_)
        clear hK1 K1 SWb hb
        go_simp
        refine wpAnyH_take (i := 14) (v := .int .i64 ((k' : Nat) : Int)) rfl (by kernel_rfl) (by kernel_rfl) (by kernel_rfl) (fun _ _ _ h => h) (Or.inl ⟨by rfl, ?_⟩) SW ?_
        · intro W5 hW5
          have y0 := HLS.out
          go_simp <;> first | done | rfl | (rw [IntKind.wrap_i64]; omega) | omega
        go_simp
        refine wpAnyH_ready (rs := [17]) (by kernel_rfl) (by simp) ?_
        refine AllReadyH.cons rfl (fun K1 hK1 => ?_) AllReadyH.nil
        go_simp
        refine (HPB.out _ SW).mono ?_
        rintro r v17 ⟨rfl, hb⟩
        replace VD := VD.mono hb
        have SWb := SW.trans (hb.mono SW.size)
        refine hK1.out _ _ SWb (fun SW => ?_)
        clear hK1 K1 SWb hb
        go_simp
        refine wpAnyH_take (i := 28) (v := .agg V0) rfl (by kernel_rfl) (by kernel_rfl) (by kernel_rfl) (fun _ _ _ h => h) (Or.inl ⟨by rfl, ?_⟩) SW ?_
        · intro W5 hW5
          exact exec_build6 (x0 := .tmp 8) (x1 := .tmp 13) (x2 := .tmp 20) (x3 := .tmp 23) (x4 := .tmp 29) (x5 := .tmp 33) (by rfl) (by rfl) (by rfl) (by rfl) (by rfl) (by rfl) (by rfl) HBU.out W5
        go_simp
        refine wpAnyH_ready (rs := [30]) (by kernel_rfl) (by simp) ?_
        refine AllReadyH.cons rfl (fun K1 hK1 => ?_) AllReadyH.nil
        refine wp_store_row 48 (.tmp 5) (.tmp 34) (by rfl) d V0 (by rfl) (by rfl) 48 _ VD HSZ.out.1 HSZ.out.2.1 HSZ.out.2.2.1 ?_
        have VE : Vb (v17.setRow d V0) d 48 (ivs (stL M ((1 - t : Nat) : Int) ((k' : Nat) : Int) e' ((h1 : Nat) : Int) ((f : Nat) : Int))) := by rw [← HSZ.out.2.2.2]; exact VD.setRow _
        have KE : Keeps (fun k => k = d) v17 (v17.setRow d V0) := by rw [← HSZ.out.2.2.2]; exact Keeps.setRow v17 d _
        have SWe := SW.trans (KE.below SW.size (fun j hj e => by omega))
        refine hK1.out _ _ SWe (fun SW => ?_)
        clear hK1 K1 SWe KE VD
        generalize World.setRow v17 d V0 = we at *
        go_simp
        refine wpAnyH_done (by kernel_rfl) ?_ _
        go_wp2_with fail
        go_meet
        case rel => exact ⟨d, rfl, hide ⟨VE, SW, hdl⟩⟩
    · go_simp
      obtain ⟨d, hd⟩ : ∃ d, wd.heap.size = d := ⟨_, rfl⟩
      have VD : Vb (wd.alloc (.cells Tryz.zeroCells48 48)) d 48 (ivs (stL zr64 0 0 0 0 0)) := by rw [← hd]; exact zr69_new wd
      have hdl : w1.heap.size ≤ d := by rw [← hd]; exact SW.size
      have SWa : Below w1.heap.size w1 (wd.alloc (.cells Tryz.zeroCells48 48)) := SW.alloc SW.size _
      try rw [hd]
      refine hK1.out _ _ SWa (fun SW => ?_)
      clear hK1 K1 SWa
      generalize wd.alloc (.cells Tryz.zeroCells48 48) = wa at *
      clear hd
      go_simp
      refine wpAnyH_ready (rs := [2]) (by kernel_rfl) (by simp) ?_
      refine AllReadyH.cons rfl (fun K1 hK1 => ?_) AllReadyH.nil
      go_simp
      refine (HPA.out _ SW).mono ?_
      rintro r v2 ⟨rfl, hb⟩
      replace VD := VD.mono hb
      have SWb := SW.trans (hb.mono SW.size)
      refine hK1.out _ _ SWb (fun SW => ?_)
      clear hK1 K1 SWb hb
      go_simp
      refine wpAnyH_ready (rs := [7]) (by kernel_rfl) (by simp) ?_
      refine AllReadyH.cons rfl (fun K1 hK1 => ?_) AllReadyH.nil
      go_simp
      refine (HOT.out _).mono ?_
      rintro r w5 ⟨rfl, hw⟩
      subst w5
      refine hK1.out _ _ SW (fun SW => ?_)
      clear hK1 K1
      go_simp
      refine wpAnyH_ready (rs := [13]) (by kernel_rfl) (by simp) ?_
      refine AllReadyH.cons rfl (fun K1 hK1 => ?_) AllReadyH.nil
      go_simp
      refine (HRL.out _).mono ?_
      rintro r v13 ⟨rfl, hb⟩
      replace VD := VD.mono hb
      have SWb := SW.trans (hb.mono SW.size)
      refine hK1.out _ _ SWb (fun SW => ?_)
      clear hK1 K1 SWb hb
      go_simp
      refine wpAnyH_take (i := 14) (v := .int .i64 ((k' : Nat) : Int)) rfl (by kernel_rfl) (by kernel_rfl) (by kernel_rfl) (fun _ _ _ h => h) (Or.inl ⟨by rfl, ?_⟩) SW ?_
      · intro W5 hW5
        have y0 := HLS.out
        go_simp <;> first | done | rfl | (rw [IntKind.wrap_i64]; omega) | omega
      go_simp
      refine wpAnyH_ready (rs := [17]) (by kernel_rfl) (by simp) ?_
      refine AllReadyH.cons rfl (fun K1 hK1 => ?_) AllReadyH.nil
      go_simp
      refine (HPB.out _ SW).mono ?_
      rintro r v17 ⟨rfl, hb⟩
      replace VD := VD.mono hb
      have SWb := SW.trans (hb.mono SW.size)
      refine hK1.out _ _ SWb (fun SW => ?_)
      clear hK1 K1 SWb hb
      go_simp
      refine wpAnyH_take (i := 28) (v := .agg V0) rfl (by kernel_rfl) (by kernel_rfl) (by kernel_rfl) (fun _ _ _ h => h) (Or.inl ⟨by rfl, ?_⟩) SW ?_
      · intro W5 hW5
        exact exec_build6 (x0 := .tmp 8) (x1 := .tmp 13) (x2 := .tmp 20) (x3 := .tmp 23) (x4 := .tmp 29) (x5 := .tmp 33) (by rfl) (by rfl) (by rfl) (by rfl) (by rfl) (by rfl) (by rfl) HBU.out W5
      go_simp
      refine wpAnyH_ready (rs := [30]) (by kernel_rfl) (by simp) ?_
      refine AllReadyH.cons rfl (fun K1 hK1 => ?_) AllReadyH.nil
      refine wp_store_row 48 (.tmp 5) (.tmp 34) (by rfl) d V0 (by rfl) (by rfl) 48 _ VD HSZ.out.1 HSZ.out.2.1 HSZ.out.2.2.1 ?_
      have VE : Vb (v17.setRow d V0) d 48 (ivs (stL M ((1 - t : Nat) : Int) ((k' : Nat) : Int) e' ((h1 : Nat) : Int) ((f : Nat) : Int))) := by rw [← HSZ.out.2.2.2]; exact VD.setRow _
      have KE : Keeps (fun k => k = d) v17 (v17.setRow d V0) := by rw [← HSZ.out.2.2.2]; exact Keeps.setRow v17 d _
      have SWe := SW.trans (KE.below SW.size (fun j hj e => by omega))
      refine hK1.out _ _ SWe (fun SW => ?_)
      clear hK1 K1 SWe KE VD
      generalize World.setRow v17 d V0 = we at *
      go_simp
      refine wpAnyH_done (by kernel_rfl) ?_ _
      go_wp2_with fail
      go_meet
      case rel => exact ⟨d, rfl, hide ⟨VE, SW, hdl⟩⟩
  case rest =>
    obtain ⟨d, rfl, hcut⟩ := hcut
    obtain ⟨VE, SW, hdl⟩ := hcut.out
    clear hcut
    have X1 := HKO.out wc SW
    have X2 := HEM.out wc SW
    have mc0 := (HM1.out wc SW).cell (i := 0) rfl
    have mc1 := (HM1.out wc SW).cell (i := 1) rfl
    have c67 := (show Sb wc d M _ _ _ _ _ from ⟨HL64.out, VE⟩).ends.2.2.2.1
    have f67 := VE.frozen 67
    obtain ⟨kd, hkd⟩ : ∃ kd, (zg Z m.1).natAbs = kd := ⟨_, rfl⟩
    obtain ⟨zq, hzq⟩ : ∃ zq, zg Z m.2.1 = zq := ⟨_, rfl⟩
    rw [hkd] at X1 HRES
    rw [hzq] at X2 HRES
    clear hkd hzq HPA HOT HRL HPB HKO HEM
    have HX1 := hide X1
    have HX2 := hide X2
    have HVE := hide VE
    have HSW := hide SW
    have HDL := hide hdl
    clear X1 X2 VE SW hdl
    by_cases hk1 : kd = 1
    · have hkb : ((kd : Int) == 1) = true := by simp [hk1]
      have HK1 := hide hk1
      clear hk1
      obtain ⟨wf, hwf⟩ : ∃ wf, wc.setCell ⟨d, 67, none⟩ (.int .i64 0) = wf := ⟨_, rfl⟩
      have hvf : Vb wf d 48 (ivs (stL M ((1 - t : Nat) : Int) ((k' : Nat) : Int) e' 0 ((f : Nat) : Int))) := by rw [← hwf, ← stL_67 HL64.out _ _ _ ((h1 : Nat) : Int)]; exact HVE.out.setI 67 _
      have hsf : Below w1.heap.size w1 wf := by rw [← hwf]; exact HSW.out.setCell (p := ⟨d, 67, none⟩) HDL.out _
      have HVF := hide hvf
      have HSF := hide hsf
      clear hvf hsf
      go_upto_region 4 with (go_at_call 52; refine HX1.out.mono ?_; rintro r w5 ⟨rfl, hw⟩; subst w5)
      clear hwf
      by_cases ht1 : t = 1
      · have htb : ((t : Int) == 1) = true := by simp [ht1]
        have HT1 := hide ht1
        clear ht1
        have HVX : Hid (Vb wf d 48 (ivs (stL M ((1 - t : Nat) : Int) ((k' : Nat) : Int) e' 0 ((f : Nat) : Int)))) := hide (HVF.out)
        have HSX : Hid (Below w1.heap.size w1 wf) := hide (HSF.out)
        clear c67 f67 mc0 mc1
        have y1 := (HS1.out _ HSX.out).ends.1
        have y5 := (HS1.out _ HSX.out).ends.2.2.2.2
        have c68 := (show Sb wf d M _ _ _ _ _ from ⟨HL64.out, HVX.out⟩).ends.2.2.2.2
        have f68 := HVX.out.frozen 68
        obtain ⟨f1, hf1⟩ : ∃ f1, min (f + 1) 999 = f1 := ⟨_, rfl⟩
        have hmf : (if (999 : Int) < (f : Int) + 1 then (999 : Int) else (f : Int) + 1) = ((f1 : Nat) : Int) := by rw [← hf1]; split <;> omega
        rw [hf1] at HRES
        obtain ⟨wy, hwy⟩ : ∃ wy, wf.setCell ⟨d, 68, none⟩ (.int .i64 ((f1 : Nat) : Int)) = wy := ⟨_, rfl⟩
        have HVY : Hid (Vb wy d 48 (ivs (stL M ((1 - t : Nat) : Int) ((k' : Nat) : Int) e' 0 ((f1 : Nat) : Int)))) := hide (by rw [← hwy, ← stL_68 HL64.out _ _ _ _ ((f : Nat) : Int)]; exact HVX.out.setI 68 _)
        have HSY : Hid (Below w1.heap.size w1 wy) := hide (by rw [← hwy]; exact HSX.out.setCell (p := ⟨d, 68, none⟩) HDL.out _)
        clear hf1
        go_upto_region 6 with fail
        clear hwy c68 f68 hmf y1 y5
        have HRW := hide (HR1.out _ HSY.out)
        go_wp2_with (first
          | refine wpList_load_vb rfl 48 (.tmp 5) rfl d rfl (by rw [stL_len HL64.out]; exact row53) HVY.out ?_
          | (refine wpList_store_vb rfl 48 (.tmp 4) (.tmp 60) rfl (g + 1) _ _ rfl rfl HRW.out (by rw [stL_len zr64_len, stL_len HL64.out]) (by rw [stL_len HL64.out]; exact row53) (by simpa using ivs_one _) ?_; intro w20 L20 K20))
        refine bodyPost_ret (results_row rfl _ _ (g + 1) rfl (run_loadVar_row _ _ 48 48 _ (0, 0) _ L20 Tryz.underlying48 rfl (by rw [List.size_toArray, stL_len HL64.out]; exact row53.s))) rfl ⟨?_, ?_⟩
        · have hres := HRES.out
          rw [if_pos (Or.inl HK1.out), if_pos HT1.out] at hres
          exact congrArg (fun q => Ending.returned (.agg (ivs (stP q)).toArray)) hres.symm
        · have hk : Keeps (fun j => j = g + 1) w1 w20 := (Keeps.of_all HSY.out).after K20 (fun j _ e => e)
          exact (show Below g w w20 from HG.out ▸ HB1.out.trans (hk.below HB1.out.size (fun j hj e => by have := HG.out; omega)))
      · have htb : ((t : Int) == 1) = false := by rw [beq_eq_false_iff_ne]; omega
        have HT1 := hide ht1
        clear ht1
        have HVX : Hid (Vb wf d 48 (ivs (stL M ((1 - t : Nat) : Int) ((k' : Nat) : Int) e' 0 ((f : Nat) : Int)))) := hide (HVF.out)
        have HSX : Hid (Below w1.heap.size w1 wf) := hide (HSF.out)
        clear c67 f67 mc0 mc1
        have y1 := (HS1.out _ HSX.out).ends.1
        have y5 := (HS1.out _ HSX.out).ends.2.2.2.2
        go_upto_region 6 with fail
        clear y1 y5
        have HRW := hide (HR1.out _ HSX.out)
        go_wp2_with (first
          | refine wpList_load_vb rfl 48 (.tmp 5) rfl d rfl (by rw [stL_len HL64.out]; exact row53) HVX.out ?_
          | (refine wpList_store_vb rfl 48 (.tmp 4) (.tmp 60) rfl (g + 1) _ _ rfl rfl HRW.out (by rw [stL_len zr64_len, stL_len HL64.out]) (by rw [stL_len HL64.out]; exact row53) (by simpa using ivs_one _) ?_; intro w20 L20 K20))
        refine bodyPost_ret (results_row rfl _ _ (g + 1) rfl (run_loadVar_row _ _ 48 48 _ (0, 0) _ L20 Tryz.underlying48 rfl (by rw [List.size_toArray, stL_len HL64.out]; exact row53.s))) rfl ⟨?_, ?_⟩
        · have hres := HRES.out
          rw [if_pos (Or.inl HK1.out), if_neg HT1.out] at hres
          exact congrArg (fun q => Ending.returned (.agg (ivs (stP q)).toArray)) hres.symm
        · have hk : Keeps (fun j => j = g + 1) w1 w20 := (Keeps.of_all HSX.out).after K20 (fun j _ e => e)
          exact (show Below g w w20 from HG.out ▸ HB1.out.trans (hk.below HB1.out.size (fun j hj e => by have := HG.out; omega)))
    · have hkb : ((kd : Int) == 1) = false := by rw [beq_eq_false_iff_ne]; omega
      have HK1 := hide hk1
      clear hk1
      by_cases hq0 : zq = 0
      · have hqb : (zq == 0) = true := by simp [hq0]
        have HQ0 := hide hq0
        clear hq0
        rw [hqb] at HX2
        go_upto_region 4 with (first | (go_at_call 52; refine HX1.out.mono ?_; rintro r w5 ⟨rfl, hw⟩; subst w5) | (go_at_call 53; refine HX2.out.mono ?_; rintro r w5 ⟨rfl, hw⟩; subst w5))
        by_cases ht1 : t = 1
        · have htb : ((t : Int) == 1) = true := by simp [ht1]
          have HT1 := hide ht1
          clear ht1
          have HVX : Hid (Vb wc d 48 (ivs (stL M ((1 - t : Nat) : Int) ((k' : Nat) : Int) e' ((h1 : Nat) : Int) ((f : Nat) : Int)))) := hide (HVE.out)
          have HSX : Hid (Below w1.heap.size w1 wc) := hide (HSW.out)
          clear c67 f67 mc0 mc1
          have y1 := (HS1.out _ HSX.out).ends.1
          have y5 := (HS1.out _ HSX.out).ends.2.2.2.2
          have c68 := (show Sb wc d M _ _ _ _ _ from ⟨HL64.out, HVX.out⟩).ends.2.2.2.2
          have f68 := HVX.out.frozen 68
          obtain ⟨f1, hf1⟩ : ∃ f1, min (f + 1) 999 = f1 := ⟨_, rfl⟩
          have hmf : (if (999 : Int) < (f : Int) + 1 then (999 : Int) else (f : Int) + 1) = ((f1 : Nat) : Int) := by rw [← hf1]; split <;> omega
          rw [hf1] at HRES
          obtain ⟨wy, hwy⟩ : ∃ wy, wc.setCell ⟨d, 68, none⟩ (.int .i64 ((f1 : Nat) : Int)) = wy := ⟨_, rfl⟩
          have HVY : Hid (Vb wy d 48 (ivs (stL M ((1 - t : Nat) : Int) ((k' : Nat) : Int) e' ((h1 : Nat) : Int) ((f1 : Nat) : Int)))) := hide (by rw [← hwy, ← stL_68 HL64.out _ _ _ _ ((f : Nat) : Int)]; exact HVX.out.setI 68 _)
          have HSY : Hid (Below w1.heap.size w1 wy) := hide (by rw [← hwy]; exact HSX.out.setCell (p := ⟨d, 68, none⟩) HDL.out _)
          clear hf1
          go_upto_region 6 with fail
          clear hwy c68 f68 hmf y1 y5
          have HRW := hide (HR1.out _ HSY.out)
          go_wp2_with (first
            | refine wpList_load_vb rfl 48 (.tmp 5) rfl d rfl (by rw [stL_len HL64.out]; exact row53) HVY.out ?_
            | (refine wpList_store_vb rfl 48 (.tmp 4) (.tmp 60) rfl (g + 1) _ _ rfl rfl HRW.out (by rw [stL_len zr64_len, stL_len HL64.out]) (by rw [stL_len HL64.out]; exact row53) (by simpa using ivs_one _) ?_; intro w20 L20 K20))
          refine bodyPost_ret (results_row rfl _ _ (g + 1) rfl (run_loadVar_row _ _ 48 48 _ (0, 0) _ L20 Tryz.underlying48 rfl (by rw [List.size_toArray, stL_len HL64.out]; exact row53.s))) rfl ⟨?_, ?_⟩
          · have hres := HRES.out
            rw [if_neg (fun o => o.elim HK1.out (fun o2 => o2 HQ0.out)), if_pos HT1.out] at hres
            exact congrArg (fun q => Ending.returned (.agg (ivs (stP q)).toArray)) hres.symm
          · have hk : Keeps (fun j => j = g + 1) w1 w20 := (Keeps.of_all HSY.out).after K20 (fun j _ e => e)
            exact (show Below g w w20 from HG.out ▸ HB1.out.trans (hk.below HB1.out.size (fun j hj e => by have := HG.out; omega)))
        · have htb : ((t : Int) == 1) = false := by rw [beq_eq_false_iff_ne]; omega
          have HT1 := hide ht1
          clear ht1
          have HVX : Hid (Vb wc d 48 (ivs (stL M ((1 - t : Nat) : Int) ((k' : Nat) : Int) e' ((h1 : Nat) : Int) ((f : Nat) : Int)))) := hide (HVE.out)
          have HSX : Hid (Below w1.heap.size w1 wc) := hide (HSW.out)
          clear c67 f67 mc0 mc1
          have y1 := (HS1.out _ HSX.out).ends.1
          have y5 := (HS1.out _ HSX.out).ends.2.2.2.2
          go_upto_region 6 with fail
          clear y1 y5
          have HRW := hide (HR1.out _ HSX.out)
          go_wp2_with (first
            | refine wpList_load_vb rfl 48 (.tmp 5) rfl d rfl (by rw [stL_len HL64.out]; exact row53) HVX.out ?_
            | (refine wpList_store_vb rfl 48 (.tmp 4) (.tmp 60) rfl (g + 1) _ _ rfl rfl HRW.out (by rw [stL_len zr64_len, stL_len HL64.out]) (by rw [stL_len HL64.out]; exact row53) (by simpa using ivs_one _) ?_; intro w20 L20 K20))
          refine bodyPost_ret (results_row rfl _ _ (g + 1) rfl (run_loadVar_row _ _ 48 48 _ (0, 0) _ L20 Tryz.underlying48 rfl (by rw [List.size_toArray, stL_len HL64.out]; exact row53.s))) rfl ⟨?_, ?_⟩
          · have hres := HRES.out
            rw [if_neg (fun o => o.elim HK1.out (fun o2 => o2 HQ0.out)), if_neg HT1.out] at hres
            exact congrArg (fun q => Ending.returned (.agg (ivs (stP q)).toArray)) hres.symm
          · have hk : Keeps (fun j => j = g + 1) w1 w20 := (Keeps.of_all HSX.out).after K20 (fun j _ e => e)
            exact (show Below g w w20 from HG.out ▸ HB1.out.trans (hk.below HB1.out.size (fun j hj e => by have := HG.out; omega)))
      · have hqb : (zq == 0) = false := by rw [beq_eq_false_iff_ne]; exact hq0
        have HQ0 := hide hq0
        clear hq0
        rw [hqb] at HX2
        obtain ⟨wf, hwf⟩ : ∃ wf, wc.setCell ⟨d, 67, none⟩ (.int .i64 0) = wf := ⟨_, rfl⟩
        have hvf : Vb wf d 48 (ivs (stL M ((1 - t : Nat) : Int) ((k' : Nat) : Int) e' 0 ((f : Nat) : Int))) := by rw [← hwf, ← stL_67 HL64.out _ _ _ ((h1 : Nat) : Int)]; exact HVE.out.setI 67 _
        have hsf : Below w1.heap.size w1 wf := by rw [← hwf]; exact HSW.out.setCell (p := ⟨d, 67, none⟩) HDL.out _
        have HVF := hide hvf
        have HSF := hide hsf
        clear hvf hsf
        go_upto_region 4 with (first | (go_at_call 52; refine HX1.out.mono ?_; rintro r w5 ⟨rfl, hw⟩; subst w5) | (go_at_call 53; refine HX2.out.mono ?_; rintro r w5 ⟨rfl, hw⟩; subst w5))
        clear hwf
        by_cases ht1 : t = 1
        · have htb : ((t : Int) == 1) = true := by simp [ht1]
          have HT1 := hide ht1
          clear ht1
          have HVX : Hid (Vb wf d 48 (ivs (stL M ((1 - t : Nat) : Int) ((k' : Nat) : Int) e' 0 ((f : Nat) : Int)))) := hide (HVF.out)
          have HSX : Hid (Below w1.heap.size w1 wf) := hide (HSF.out)
          clear c67 f67 mc0 mc1
          have y1 := (HS1.out _ HSX.out).ends.1
          have y5 := (HS1.out _ HSX.out).ends.2.2.2.2
          have c68 := (show Sb wf d M _ _ _ _ _ from ⟨HL64.out, HVX.out⟩).ends.2.2.2.2
          have f68 := HVX.out.frozen 68
          obtain ⟨f1, hf1⟩ : ∃ f1, min (f + 1) 999 = f1 := ⟨_, rfl⟩
          have hmf : (if (999 : Int) < (f : Int) + 1 then (999 : Int) else (f : Int) + 1) = ((f1 : Nat) : Int) := by rw [← hf1]; split <;> omega
          rw [hf1] at HRES
          obtain ⟨wy, hwy⟩ : ∃ wy, wf.setCell ⟨d, 68, none⟩ (.int .i64 ((f1 : Nat) : Int)) = wy := ⟨_, rfl⟩
          have HVY : Hid (Vb wy d 48 (ivs (stL M ((1 - t : Nat) : Int) ((k' : Nat) : Int) e' 0 ((f1 : Nat) : Int)))) := hide (by rw [← hwy, ← stL_68 HL64.out _ _ _ _ ((f : Nat) : Int)]; exact HVX.out.setI 68 _)
          have HSY : Hid (Below w1.heap.size w1 wy) := hide (by rw [← hwy]; exact HSX.out.setCell (p := ⟨d, 68, none⟩) HDL.out _)
          clear hf1
          go_upto_region 6 with fail
          clear hwy c68 f68 hmf y1 y5
          have HRW := hide (HR1.out _ HSY.out)
          go_wp2_with (first
            | refine wpList_load_vb rfl 48 (.tmp 5) rfl d rfl (by rw [stL_len HL64.out]; exact row53) HVY.out ?_
            | (refine wpList_store_vb rfl 48 (.tmp 4) (.tmp 60) rfl (g + 1) _ _ rfl rfl HRW.out (by rw [stL_len zr64_len, stL_len HL64.out]) (by rw [stL_len HL64.out]; exact row53) (by simpa using ivs_one _) ?_; intro w20 L20 K20))
          refine bodyPost_ret (results_row rfl _ _ (g + 1) rfl (run_loadVar_row _ _ 48 48 _ (0, 0) _ L20 Tryz.underlying48 rfl (by rw [List.size_toArray, stL_len HL64.out]; exact row53.s))) rfl ⟨?_, ?_⟩
          · have hres := HRES.out
            rw [if_pos (Or.inr HQ0.out), if_pos HT1.out] at hres
            exact congrArg (fun q => Ending.returned (.agg (ivs (stP q)).toArray)) hres.symm
          · have hk : Keeps (fun j => j = g + 1) w1 w20 := (Keeps.of_all HSY.out).after K20 (fun j _ e => e)
            exact (show Below g w w20 from HG.out ▸ HB1.out.trans (hk.below HB1.out.size (fun j hj e => by have := HG.out; omega)))
        · have htb : ((t : Int) == 1) = false := by rw [beq_eq_false_iff_ne]; omega
          have HT1 := hide ht1
          clear ht1
          have HVX : Hid (Vb wf d 48 (ivs (stL M ((1 - t : Nat) : Int) ((k' : Nat) : Int) e' 0 ((f : Nat) : Int)))) := hide (HVF.out)
          have HSX : Hid (Below w1.heap.size w1 wf) := hide (HSF.out)
          clear c67 f67 mc0 mc1
          have y1 := (HS1.out _ HSX.out).ends.1
          have y5 := (HS1.out _ HSX.out).ends.2.2.2.2
          go_upto_region 6 with fail
          clear y1 y5
          have HRW := hide (HR1.out _ HSX.out)
          go_wp2_with (first
            | refine wpList_load_vb rfl 48 (.tmp 5) rfl d rfl (by rw [stL_len HL64.out]; exact row53) HVX.out ?_
            | (refine wpList_store_vb rfl 48 (.tmp 4) (.tmp 60) rfl (g + 1) _ _ rfl rfl HRW.out (by rw [stL_len zr64_len, stL_len HL64.out]) (by rw [stL_len HL64.out]; exact row53) (by simpa using ivs_one _) ?_; intro w20 L20 K20))
          refine bodyPost_ret (results_row rfl _ _ (g + 1) rfl (run_loadVar_row _ _ 48 48 _ (0, 0) _ L20 Tryz.underlying48 rfl (by rw [List.size_toArray, stL_len HL64.out]; exact row53.s))) rfl ⟨?_, ?_⟩
          · have hres := HRES.out
            rw [if_pos (Or.inr HQ0.out), if_neg HT1.out] at hres
            exact congrArg (fun q => Ending.returned (.agg (ivs (stP q)).toArray)) hres.symm
          · have hk : Keeps (fun j => j = g + 1) w1 w20 := (Keeps.of_all HSX.out).after K20 (fun j _ e => e)
            exact (show Below g w w20 from HG.out ▸ HB1.out.trans (hk.below HB1.out.size (fun j hj e => by have := HG.out; omega)))

end Go.Proofs.YtdmlamnonbmboaaGreatDoor
