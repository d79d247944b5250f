/-
  Chess: whether a move would leave its own king attacked, walked. No conditions beyond those that each theorem bears.
  Rows of cells, loaded and stored whole, in a plain walk and inside a round. No conditions beyond those that each theorem bears.
-/
import Derived.Test.YtdmlamnonbmboaaDoorQ28
import Derived.Test.YtdmlamnonbmboaaDoorQ03
namespace Go.Proofs.YtdmlamnonbmboaaDoor
open Go.RowKit Go.Shelf

theorem Vb.rd64 {w : World} {b t : Nat} {L : List Int} (h : Vb w b t (ivs L)) (hl : L.length = 64) : Rd w (some ⟨b, 0, none⟩) 64 64 L :=
  ⟨hl, Nat.le_refl _, by unfold maxLen; omega, (fun e => by cases e), fun _ => ⟨b, 0, rfl, fun i hi => by rw [Nat.zero_add]; exact h.cellI (by omega)⟩⟩

set_option maxRecDepth 100000 in
set_option maxHeartbeats 4000000 in
theorem exposes_any (b : Nat) (Z : List Int) (t : Nat) (k e h f : Int) (ht : t ≤ 1) (hz : Pz Z) (x q n : Nat) (hx : x < 64) (hq : q < 64) (hn6 : n ≤ 6) (hbk : tkB Z e x q = true → bk t q < 64 ∧ (q : Int) - pci t 8 = ((bk t q : Nat) : Int))
    (K : Nat) (hK : Fst (mvZ Z t e x q n) (pc t 6) K) (w : World) (hs : Sb w b Z (t : Nat) k e h f) (hT : TabS w) :
    Calls Tryd.prog 75 #[.pointer (some ⟨b, 0, none⟩), .agg #[.int .i64 (x : Nat), .int .i64 (q : Nat), .int .i64 (n : Nat)]] w fun r w' => r = .returned (.bool (decide (atk (mvZ Z t e x q n) K (1 - t) ≠ []))) ∧ Below w.heap.size w w' := by
  have hl : (mvZ Z t e x q n).length = 64 := by rw [mvZ_len]; exact hs.1
  have HPA : Hid (∀ W, Below w.heap.size w W → Calls Tryd.prog 77 #[.pointer (some ⟨b, 0, none⟩), .agg #[.int .i64 (x : Nat), .int .i64 (q : Nat), .int .i64 (n : Nat)]] W fun r w' => r = .returned (.agg (ivs (mvZ Z t e x q n)).toArray) ∧ Below W.heap.size W w') := hide (fun W hb => placesAfter_any b Z t k e h f hz x q n hx hq hn6 hbk W (hs.mono hb))
  have HIC0 : Hid (∀ W d, Vb W d 49 (ivs (mvZ Z t e x q n)) → TabS W → Calls Tryd.prog 43 #[.slice (some ⟨d, 0, none⟩) 64 64, .int .i64 (t : Nat)] W fun r w' => r = .returned (.bool (decide (atk (mvZ Z t e x q n) K (1 - t) ≠ []))) ∧ Below W.heap.size W w') := hide (fun W d hv hT => inCheck_any _ 64 (mvZ Z t e x q n) t K ht hK W (hv.rd64 hl) hT)
  have HSB : Hid (∀ W, Below w.heap.size w W → Sb W b Z (t : Nat) k e h f ∧ TabS W) := hide (fun W hb => ⟨hs.mono hb, hT.mono hb⟩)
  obtain ⟨rr, hrr⟩ : ∃ rr, decide (atk (mvZ Z t e x q n) K (1 - t) ≠ []) = rr := ⟨_, rfl⟩
  rw [hrr] at HIC0 ⊢
  obtain ⟨M, hM⟩ : ∃ M, mvZ Z t e x q n = M := ⟨_, rfl⟩
  rw [hM] at HPA HIC0 hl
  obtain ⟨g, hg⟩ : ∃ g, w.heap.size = g := ⟨_, rfl⟩
  obtain ⟨w1, hw1⟩ : ∃ w1, w.alloc (.cells #[.int .i64 (x : Nat), .int .i64 (q : Nat), .int .i64 (n : Nat)] 42) = w1 := ⟨_, rfl⟩
  have B1 : Below g w w1 := by rw [← hw1, ← hg]; exact (Below.refl _ w).alloc (Nat.le_refl _) _
  have V1 : Vb w1 g 42 [.int .i64 (x : Nat), .int .i64 (q : Nat), .int .i64 (n : Nat)] := by rw [← hw1, ← hg]; exact Vb.new w 42 _
  have rng1 := V1.range
  have HPA1 := hide (HPA.out w1 (by rw [hg]; exact B1))
  have HB1 := hide B1
  have HG := hide hg
  clear hs hT hK hz hbk hrr hM HPA B1
  try rw [hg]
  go_enter Tryd.func75, Tryd.ntmps75
  go_upto_region 1 with fail
  try rw [hg]
  clear hw1
  go_wp2_with (refine wpList_load_mid rfl 42 _ rfl g 0 rfl [.int .i64 (x : Nat), .int .i64 (q : Nat), .int .i64 (n : Nat)] _ rng1 Tryd.underlying42 rfl size26 ?_)
  refine HPA1.out.mono ?_
  rintro r w2 ⟨rfl, hb2⟩
  have HB2 : Hid (Below g w w2) := hide (HB1.out.trans (hb2.mono (Nat.le_trans (Nat.le_of_eq HG.out.symm) HB1.out.size)))
  clear hb2 V1 rng1 HPA1
  obtain ⟨d, hd⟩ : ∃ d, w2.heap.size = d := ⟨_, rfl⟩
  obtain ⟨w3, hw3⟩ : ∃ w3, w2.alloc (.cells #[.int .i64 0, .int .i64 0, .int .i64 0, .int .i64 0, .int .i64 0, .int .i64 0, .int .i64 0, .int .i64 0, .int .i64 0, .int .i64 0, .int .i64 0, .int .i64 0, .int .i64 0, .int .i64 0, .int .i64 0, .int .i64 0, .int .i64 0, .int .i64 0, .int .i64 0, .int .i64 0, .int .i64 0, .int .i64 0, .int .i64 0, .int .i64 0, .int .i64 0, .int .i64 0, .int .i64 0, .int .i64 0, .int .i64 0, .int .i64 0, .int .i64 0, .int .i64 0, .int .i64 0, .int .i64 0, .int .i64 0, .int .i64 0, .int .i64 0, .int .i64 0, .int .i64 0, .int .i64 0, .int .i64 0, .int .i64 0, .int .i64 0, .int .i64 0, .int .i64 0, .int .i64 0, .int .i64 0, .int .i64 0, .int .i64 0, .int .i64 0, .int .i64 0, .int .i64 0, .int .i64 0, .int .i64 0, .int .i64 0, .int .i64 0, .int .i64 0, .int .i64 0, .int .i64 0, .int .i64 0, .int .i64 0, .int .i64 0, .int .i64 0, .int .i64 0] 49) = w3 := ⟨_, rfl⟩
  have B3 : Below d w2 w3 := by rw [← hw3, ← hd]; exact (Below.refl _ _).alloc (Nat.le_refl _) _
  have V3 : Vb w3 d 49 (ivs zr64) := by rw [← hw3, ← hd]; exact zr64_new w2
  have HB3 := hide B3
  have HD := hide hd
  clear B3
  go_upto_region 2 with (refine wpList_store_pl rfl (.tmp 5) (.tmp 8) rfl d hl (by simp [Act.eval]) rfl zr64_len V3 ?_; intro w4 L4 K4)
  have B4 : Below d w2 w4 := HB3.out.trans (K4.below (Nat.le_trans (by rw [HD.out]; exact Nat.le_refl _) HB3.out.size) (fun j hj e => by omega))
  have B4g : Below g w w4 := HB2.out.trans (B4.mono (by rw [← HD.out, ← HG.out]; exact HB2.out.size))
  have hwg : Below w.heap.size w w4 := by rw [hg]; exact B4g
  have HS4 : Hid (∀ W, Below w4.heap.size w4 W → Sb W b Z (t : Nat) k e h f) := hide (fun W hb => ((HSB.out w4 hwg).1).mono hb)
  have HIC : Hid (∀ W, Below w4.heap.size w4 W → Calls Tryd.prog 43 #[.slice (some ⟨d, 0, none⟩) 64 64, .int .i64 (t : Nat)] W fun r w' => r = .returned (.bool rr) ∧ Below W.heap.size W w') := hide (fun W hb => HIC0.out W d (L4.mono hb) ((HSB.out w4 hwg).2.mono hb))
  have HB4 := hide B4g
  clear B4 B4g hwg K4 L4 V3 hw3 hd HSB HIC0
  refine wp_region_held (S := fun W5 => Below w4.heap.size w4 W5) (by kernel_rfl) ?_
  change wpAnyH _ _ _ _ _ _ _ _ (World.drew _)
  have SW : (fun W5 => Below w4.heap.size w4 W5) w4.drew := (Below.refl _ _).drew
  refine wpAnyH_take (i := 0) (v := .slice (some ⟨d, 0, none⟩) 64 64) rfl (by kernel_rfl) (by kernel_rfl) (by kernel_rfl) (fun _ _ _ h => h) (Or.inl ⟨by rfl, ?_⟩) SW ?_
  · intro W5 hW5
    go_simp <;> first | done | rfl | (rw [IntKind.wrap_i64]; omega) | omega
  go_simp
  refine wpAnyH_take (i := 1) (v := .pointer (some ⟨b, 0, none⟩)) rfl (by kernel_rfl) (by kernel_rfl) (by kernel_rfl) (fun _ _ _ h => h) (Or.inl ⟨by rfl, ?_⟩) SW ?_
  · intro W5 hW5
    go_simp <;> first | done | rfl | (rw [IntKind.wrap_i64]; omega) | omega
  go_simp
  refine wpAnyH_take (i := 2) (v := .pointer (some ⟨b, 0, none⟩)) rfl (by kernel_rfl) (by kernel_rfl) (by kernel_rfl) (fun _ _ _ h => h) (Or.inl ⟨by rfl, ?_⟩) SW ?_
  · intro W5 hW5
    go_simp <;> first | done | rfl | (rw [IntKind.wrap_i64]; omega) | omega
  go_simp
  refine wpAnyH_take (i := 3) (v := .pointer (some ⟨b, 64, none⟩)) rfl (by kernel_rfl) (by kernel_rfl) (by kernel_rfl) (fun _ _ _ h => h) (Or.inl ⟨by rfl, ?_⟩) SW ?_
  · intro W5 hW5
    go_simp <;> first | done | rfl | (rw [IntKind.wrap_i64]; omega) | omega
  go_simp
  refine wpAnyH_take (i := 4) (v := .int .i64 (t : Nat)) rfl (by kernel_rfl) (by kernel_rfl) (by kernel_rfl) (fun _ _ _ h => h) (Or.inl ⟨by rfl, ?_⟩) SW ?_
  · intro W5 hW5
    have y0 := (HS4.out W5 hW5).ends.1
    go_simp <;> first | done | rfl | (rw [IntKind.wrap_i64]; omega) | omega
  go_simp
  generalize w4.drew = wd at *
  refine wpAnyH_ready (rs := [5]) (by kernel_rfl) (by simp) ?_
  refine AllReadyH.cons rfl (fun K1 hK1 => ?_) AllReadyH.nil
  go_simp
  refine (HIC.out wd SW).mono ?_
  rintro r w5 ⟨rfl, hb5⟩
  refine hK1.out _ _ (SW.trans (hb5.mono SW.size)) (fun SW => ?_)
  clear hK1 K1 hb5
  go_simp
  refine wpAnyH_take (i := 6) (v := .bool rr) rfl (by kernel_rfl) (by kernel_rfl) (by kernel_rfl) (fun _ _ _ h => h) (Or.inl ⟨by rfl, ?_⟩) SW ?_
  · intro W5 hW5
    go_simp <;> first | done | rfl | (rw [IntKind.wrap_i64]; omega) | omega
  go_simp
  refine wpAnyH_done (by kernel_rfl) ?_ _
  go_wp2_with fail
  go_ret
  exact ⟨rfl, HB4.out.trans (SW.mono (Nat.le_trans (Nat.le_of_eq HG.out.symm) HB4.out.size))⟩

end Go.Proofs.YtdmlamnonbmboaaDoor

namespace Go.Proofs.YtdmlamnonbmboaaDoor
open Go.RowKit Go.Shelf

/-- A type whose values are rows of so many cells. -/
structure RowT (t n : Nat) : Prop where
  u : ∃ d, Tryd.prog.underlying t = some d ∧ (match d with | .struct _ | .array _ _ => true | _ => false) = true
  s : (Tryd.prog.info? t).map (·.size) = some n

theorem row26 : RowT 42 3 := ⟨⟨_, Tryd.underlying42, rfl⟩, by kernel_rfl⟩
theorem row51 : RowT 49 64 := ⟨⟨_, Tryd.underlying49, rfl⟩, by kernel_rfl⟩
theorem row53 : RowT 51 69 := ⟨⟨_, Tryd.underlying51, rfl⟩, by kernel_rfl⟩

section
variable {l n : Nat} {ops : Array Oper} {rest : List Oper} {o : Oper} {a : Act} {w : World} {Q : Exit → Act → World → Prop}
theorem wpListIn_store_vb (hgd : o.guard = none) (t : Nat) (x y : Operand) (ho : o.op = .store t x y)
    (g : Nat) (L M : List Value) (hx : a.eval x = .pointer (some ⟨g, 0, none⟩)) (hy : a.eval y = .agg L.toArray) (hb : Vb w g t M) (hl : M.length = L.length) (hs : RowT t L.length) (h1 : ∀ u ∈ L, u.oneCell' = true)
    (h : ∀ w', Vb w' g t L → Keeps (fun k => k = g) w w' → wpListIn (Fence.wide.inRound l) n Tryd.prog ops Q rest (a.put o.dst undef) w') : wpListIn (Fence.wide.inRound l) n Tryd.prog ops Q (o :: rest) a w := by
  refine wpListIn_plain hgd fun _ hK => ?_
  have hb' : w.heap[g]? = _ := hb
  refine oper_round (fun c e => by rw [ho] at e; cases e) (wp_store_row t x y ho g L.toArray hx hy t M.toArray hb' (by rw [List.size_toArray]; exact hs.s) (by simp [hl]) (by simpa using h1) ?_)
  refine hK _ _ (h _ ?_ ?_)
  · simp [Vb, World.setRow, Array.getElem?_modify, hb']
  · exact ⟨rfl, rfl, rfl, by simp [World.setRow], fun k _ hk => by simp [World.setRow, Array.getElem?_modify, show ¬ g = k from fun e => hk e.symm]⟩
theorem wpList_store_vb (hgd : o.guard = none) (t : Nat) (x y : Operand) (ho : o.op = .store t x y)
    (g : Nat) (L M : List Value) (hx : a.eval x = .pointer (some ⟨g, 0, none⟩)) (hy : a.eval y = .agg L.toArray) (hb : Vb w g t M) (hl : M.length = L.length) (hs : RowT t L.length) (h1 : ∀ u ∈ L, u.oneCell' = true)
    (h : ∀ w', Vb w' g t L → Keeps (fun k => k = g) w w' → wpList Tryd.prog ops Q rest (a.put o.dst undef) w') : wpList Tryd.prog ops Q (o :: rest) a w := by
  refine wpList_plain hgd fun _ hK => ?_
  have hb' : w.heap[g]? = _ := hb
  refine wp_store_row t x y ho g L.toArray hx hy t M.toArray hb' (by rw [List.size_toArray]; exact hs.s) (by simp [hl]) (by simpa using h1) ?_
  refine hK _ _ (h _ ?_ ?_)
  · simp [Vb, World.setRow, Array.getElem?_modify, hb']
  · exact ⟨rfl, rfl, rfl, by simp [World.setRow], fun k _ hk => by simp [World.setRow, Array.getElem?_modify, show ¬ g = k from fun e => hk e.symm]⟩
theorem wpListIn_load_vb (hgd : o.guard = none) (t : Nat) (x : Operand) (ho : o.op = .load t x)
    (g : Nat) (hx : a.eval x = .pointer (some ⟨g, 0, none⟩)) {L : List Value} (hs : RowT t L.length) (hc : Vb w g t L)
    (h : wpListIn (Fence.wide.inRound l) n Tryd.prog ops Q rest (a.put o.dst (.agg L.toArray)) w) : wpListIn (Fence.wide.inRound l) n Tryd.prog ops Q (o :: rest) a w := by
  obtain ⟨d, hu, hd⟩ := hs.u
  exact wpListIn_plain hgd fun _ hK => oper_round (fun c e => by rw [ho] at e; cases e) (wp_load_row t x ho g hx t _ (0, 0) d hc hu (by cases d <;> first | rfl | cases hd) (by rw [List.size_toArray]; exact hs.s) (hK _ _ h))
theorem wpList_load_vb (hgd : o.guard = none) (t : Nat) (x : Operand) (ho : o.op = .load t x)
    (g : Nat) (hx : a.eval x = .pointer (some ⟨g, 0, none⟩)) {L : List Value} (hs : RowT t L.length) (hc : Vb w g t L)
    (h : wpList Tryd.prog ops Q rest (a.put o.dst (.agg L.toArray)) w) : wpList Tryd.prog ops Q (o :: rest) a w := by
  obtain ⟨d, hu, hd⟩ := hs.u
  exact wpList_plain hgd fun _ hK => wp_load_row t x ho g hx t _ (0, 0) d hc hu (by cases d <;> first | rfl | cases hd) (by rw [List.size_toArray]; exact hs.s) (hK _ _ h)
end

/-- A move as a row of cells. -/
abbrev mvC (m : Nat × Nat × Nat) : List Value := [.int .i64 (m.1 : Nat), .int .i64 (m.2.1 : Nat), .int .i64 (m.2.2 : Nat)]
theorem mvC_one (m : Nat × Nat × Nat) : ∀ u ∈ mvC m, u.oneCell' = true := by simp [mvC, Value.oneCell']

theorem and_pow (M y : Nat) : M &&& 2 ^ y = if M.testBit y = true then 2 ^ y else 0 := by
  apply Nat.eq_of_testBit_eq
  intro i
  rw [Nat.testBit_and, Nat.testBit_two_pow]
  by_cases e : y = i
  · subst e
    cases h : M.testBit y with
    | true => simp [Nat.testBit_two_pow_self]
    | false => simp
  · rw [decide_eq_false e, Bool.and_false]
    split
    · rw [Nat.testBit_two_pow, decide_eq_false e]
    · simp
theorem and_msk (p : Nat → Bool) {y : Nat} (hy : y < 64) : (bits BinOp.and .u64 ((msk p 64 : Nat) : Int) ((2 ^ y : Nat) : Int) == 0) = !(p y) := by
  rw [u64_and_nat _ _ (msk_lt' p 64 (by omega)) (pow_lt64 hy), and_pow, msk_bit, decide_eq_true hy, Bool.true_and]
  have h2 := Nat.two_pow_pos y
  cases p y with
  | true =>
    rw [if_pos rfl, Bool.not_true, beq_eq_false_iff_ne]
    omega
  | false => rfl

end Go.Proofs.YtdmlamnonbmboaaDoor
