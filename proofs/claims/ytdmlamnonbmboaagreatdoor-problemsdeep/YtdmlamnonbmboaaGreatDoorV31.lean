/-
  Chess: the places behind a move: walked. No conditions beyond those that each theorem bears.
-/
import Derived.Test.YtdmlamnonbmboaaGreatDoorV28
import Derived.Test.YtdmlamnonbmboaaGreatDoorV29
import Derived.Test.YtdmlamnonbmboaaGreatDoorV30
namespace Go.Proofs.YtdmlamnonbmboaaGreatDoor
open Go.RowKit Go.Shelf

theorem size51 : (Tryz.prog.info? 46).map (·.size) = some 64 := by kernel_rfl
theorem size51' {L : List Int} (h : L.length = 64) : (Tryz.prog.info? 46).map (·.size) = some (ivs L).length := by rw [size51, ivs_length, h]
theorem size26 : (Tryz.prog.info? 32).map (·.size) = some 3 := by kernel_rfl
def zr64 : List Int := List.replicate 64 0
theorem zr64_len : zr64.length = 64 := by kernel_rfl
theorem zr64_new (w : World) : Vb (w.alloc (.cells #[.int .i64 0, .int .i64 0, .int .i64 0, .int .i64 0, .int .i64 0, .int .i64 0, .int .i64 0, .int .i64 0, .int .i64 0, .int .i64 0, .int .i64 0, .int .i64 0, .int .i64 0, .int .i64 0, .int .i64 0, .int .i64 0, .int .i64 0, .int .i64 0, .int .i64 0, .int .i64 0, .int .i64 0, .int .i64 0, .int .i64 0, .int .i64 0, .int .i64 0, .int .i64 0, .int .i64 0, .int .i64 0, .int .i64 0, .int .i64 0, .int .i64 0, .int .i64 0, .int .i64 0, .int .i64 0, .int .i64 0, .int .i64 0, .int .i64 0, .int .i64 0, .int .i64 0, .int .i64 0, .int .i64 0, .int .i64 0, .int .i64 0, .int .i64 0, .int .i64 0, .int .i64 0, .int .i64 0, .int .i64 0, .int .i64 0, .int .i64 0, .int .i64 0, .int .i64 0, .int .i64 0, .int .i64 0, .int .i64 0, .int .i64 0, .int .i64 0, .int .i64 0, .int .i64 0, .int .i64 0, .int .i64 0, .int .i64 0, .int .i64 0, .int .i64 0] 46)) w.heap.size 46 (ivs zr64) := by
  have h : (ivs zr64).toArray = #[.int .i64 0, .int .i64 0, .int .i64 0, .int .i64 0, .int .i64 0, .int .i64 0, .int .i64 0, .int .i64 0, .int .i64 0, .int .i64 0, .int .i64 0, .int .i64 0, .int .i64 0, .int .i64 0, .int .i64 0, .int .i64 0, .int .i64 0, .int .i64 0, .int .i64 0, .int .i64 0, .int .i64 0, .int .i64 0, .int .i64 0, .int .i64 0, .int .i64 0, .int .i64 0, .int .i64 0, .int .i64 0, .int .i64 0, .int .i64 0, .int .i64 0, .int .i64 0, .int .i64 0, .int .i64 0, .int .i64 0, .int .i64 0, .int .i64 0, .int .i64 0, .int .i64 0, .int .i64 0, .int .i64 0, .int .i64 0, .int .i64 0, .int .i64 0, .int .i64 0, .int .i64 0, .int .i64 0, .int .i64 0, .int .i64 0, .int .i64 0, .int .i64 0, .int .i64 0, .int .i64 0, .int .i64 0, .int .i64 0, .int .i64 0, .int .i64 0, .int .i64 0, .int .i64 0, .int .i64 0, .int .i64 0, .int .i64 0, .int .i64 0, .int .i64 0] := by kernel_rfl
  rw [← h]
  exact Vb.new w 46 _

theorem Sb.range {w : World} {b : Nat} {Z : List Int} {t k e h f : Int} (hs : Sb w b Z t k e h f) : w.rangeAt b 0 (ivs Z) := fun j v hv => by
  have hj : j < Z.length := by have := (List.getElem?_eq_some_iff.1 hv).1; rwa [ivs_length] at this
  rw [Nat.zero_add, hs.at (by rw [← hs.1]; exact hj), ← hv]
  simp [ivs, zg, List.getD, hj]

theorem Vb.setI {w : World} {b t : Nat} {L : List Int} (h : Vb w b t (ivs L)) (i : Nat) (v : Int) : Vb (w.setCell ⟨b, i, none⟩ (.int .i64 v)) b t (ivs (L.set i v)) := by
  have := h.set i (.int .i64 v)
  rwa [show (ivs L).set i (.int .i64 v) = ivs (L.set i v) by simp [ivs, List.map_set]] at this
theorem Vb.cellI {w : World} {b t : Nat} {L : List Int} (h : Vb w b t (ivs L)) {i : Nat} (hi : i < L.length) : w.cell? ⟨b, i, none⟩ = some (.int .i64 (L.getD i 0)) := h.cell (by simp [ivs, List.getD, hi])

theorem wpList_store_pl {ops : Array Oper} {rest : List Oper} {o : Oper} {a : Act} {w : World} {Q : Exit → Act → World → Prop} (hgd : o.guard = none) (x y : Operand) (ho : o.op = .store 46 x y)
    (b : Nat) {L L' : List Int} (hl : L.length = 64) (hx : a.eval x = .pointer (some ⟨b, 0, none⟩)) (hy : a.eval y = .agg (ivs L).toArray) (hl' : L'.length = 64) (hb : Vb w b 46 (ivs L'))
    (h : ∀ w', Vb w' b 46 (ivs L) → Keeps (fun k => k = b) w w' → wpList Tryz.prog ops Q rest (a.put o.dst undef) w') : wpList Tryz.prog ops Q (o :: rest) a w := by
  refine wpList_plain hgd fun _ hK => ?_
  have hb' : w.heap[b]? = _ := hb
  refine wp_store_row 46 x y ho b (ivs L).toArray hx hy 46 _ hb' (by rw [size51, List.size_toArray, ivs_length, hl]) (by simp [ivs_length, hl, hl']) (ivs_one L) ?_
  refine hK _ _ (h _ ?_ ?_)
  · simp [Vb, World.setRow, Array.getElem?_modify, hb']
  · exact ⟨rfl, rfl, rfl, by simp [World.setRow], fun k _ hk => by simp [World.setRow, Array.getElem?_modify, show ¬ b = k from fun e => hk e.symm]⟩

theorem wpList_store_cs {ops : Array Oper} {rest : List Oper} {o : Oper} {a : Act} {w : World} {Q : Exit → Act → World → Prop} (hgd : o.guard = none) (x y : Operand) (ho : o.op = .store 106 x y)
    (b : Nat) {a1 a2 a3 b1 b2 b3 : Int} (hx : a.eval x = .pointer (some ⟨b, 0, none⟩)) (hy : a.eval y = .agg #[.int .i64 a1, .int .i64 a2, .int .i64 a3]) (hb : Vb w b 106 [.int .i64 b1, .int .i64 b2, .int .i64 b3])
    (h : ∀ w', Vb w' b 106 [.int .i64 a1, .int .i64 a2, .int .i64 a3] → Keeps (fun k => k = b) w w' → wpList Tryz.prog ops Q rest (a.put o.dst undef) w') : wpList Tryz.prog ops Q (o :: rest) a w := by
  refine wpList_plain hgd fun _ hK => ?_
  have hb' : w.heap[b]? = _ := hb
  refine wp_store_row 106 x y ho b #[.int .i64 a1, .int .i64 a2, .int .i64 a3] hx hy 106 _ hb' size105 rfl (by simp [Value.oneCell']) ?_
  refine hK _ _ (h _ ?_ ?_)
  · simp [Vb, World.setRow, Array.getElem?_modify, hb']
  · exact ⟨rfl, rfl, rfl, by simp [World.setRow], fun k _ hk => by simp [World.setRow, Array.getElem?_modify, show ¬ b = k from fun e => hk e.symm]⟩

theorem cyV_none : cyV none = .tuple #[.agg #[.int .i64 0, .int .i64 0, .int .i64 0], .bool false] := rfl
theorem cyV_some (i : Nat) : cyV (some i) = .tuple #[.agg #[.int .i64 (sdP i : Nat), .int .i64 (kgP i : Nat), .int .i64 (rkP i : Nat)], .bool true] := rfl
theorem mvZ_none {Z : List Int} {t : Nat} {e : Int} {f q n : Nat} (h : cI Z f q = none) : mvZ Z t e f q n = mv3 Z t e f q n := by unfold mvZ; rw [h]
theorem mvZ_some {Z : List Int} {t : Nat} {e : Int} {f q n i : Nat} (h : cI Z f q = some i) : mvZ Z t e f q n = ((mv3 Z t e f q n).set (rkP i) 0).set (cOv i) (zg Z (rkP i)) := by unfold mvZ; rw [h]

theorem mv1_eq (Z : List Int) (f q : Nat) : (Z.set f 0).set q (zg Z f) = mv1 Z f q := rfl
theorem mv2_zero (Z : List Int) (t f q : Nat) : mv2 Z t f q 0 = mv1 Z f q := rfl
theorem mv2_pos {Z : List Int} {t f q n : Nat} (h : n ≠ 0) : mv2 Z t f q n = (mv1 Z f q).set q (pci t n) := by unfold mv2; rw [if_neg h]
theorem mv3_no {Z : List Int} {t : Nat} {e : Int} {f q n : Nat} (h : tkB Z e f q = false) : mv3 Z t e f q n = mv2 Z t f q n := by unfold mv3; rw [h]; rfl
theorem mv3_yes {Z : List Int} {t : Nat} {e : Int} {f q n : Nat} (h : tkB Z e f q = true) : mv3 Z t e f q n = (mv2 Z t f q n).set (bk t q) 0 := by unfold mv3; rw [h]; rfl

theorem Keeps.after {X Y : Nat → Prop} {a b c : World} (h : Keeps X a b) (k : Keeps Y b c) (hY : ∀ i, i < a.heap.size → Y i → X i) : Keeps X a c :=
  ⟨k.os.trans h.os, k.tape.trans h.tape, k.output.trans h.output, Nat.le_trans h.size k.size, fun i hi hx => (k.block i (Nat.lt_of_lt_of_le hi h.size) (fun e => hx (hY i hi e))).trans (h.block i hi hx)⟩

attribute [local irreducible] mv1 mv2 mv3 mvZ cI tkB

set_option maxRecDepth 100000 in
set_option maxHeartbeats 8000000 in
theorem placesAfter_any (b : Nat) (Z : List Int) (t : Nat) (k e h f : Int) (hz : Pz Z) (x q n : Nat) (hx : x < 64) (hq : q < 64) (hn6 : n ≤ 6) (hbk : tkB Z e x q = true → bk t q < 64 ∧ (q : Int) - pci t 8 = ((bk t q : Nat) : Int)) (w : World) (hs : Sb w b Z (t : Nat) k e h f) :
    Calls Tryz.prog 49 #[.pointer (some ⟨b, 0, none⟩), .agg #[.int .i64 (x : Nat), .int .i64 (q : Nat), .int .i64 (n : Nat)]] w fun r w' => r = .returned (.agg (ivs (mvZ Z t e x q n)).toArray) ∧ Below w.heap.size w w' := by
  obtain ⟨g, hg⟩ : ∃ g, w.heap.size = g := ⟨_, rfl⟩
  obtain ⟨w1, hw1⟩ : ∃ w1, (w.alloc (.cells #[.int .i64 (x : Nat), .int .i64 (q : Nat), .int .i64 (n : Nat)] 32)).alloc (.cells #[.int .i64 0, .int .i64 0, .int .i64 0, .int .i64 0, .int .i64 0, .int .i64 0, .int .i64 0, .int .i64 0, .int .i64 0, .int .i64 0, .int .i64 0, .int .i64 0, .int .i64 0, .int .i64 0, .int .i64 0, .int .i64 0, .int .i64 0, .int .i64 0, .int .i64 0, .int .i64 0, .int .i64 0, .int .i64 0, .int .i64 0, .int .i64 0, .int .i64 0, .int .i64 0, .int .i64 0, .int .i64 0, .int .i64 0, .int .i64 0, .int .i64 0, .int .i64 0, .int .i64 0, .int .i64 0, .int .i64 0, .int .i64 0, .int .i64 0, .int .i64 0, .int .i64 0, .int .i64 0, .int .i64 0, .int .i64 0, .int .i64 0, .int .i64 0, .int .i64 0, .int .i64 0, .int .i64 0, .int .i64 0, .int .i64 0, .int .i64 0, .int .i64 0, .int .i64 0, .int .i64 0, .int .i64 0, .int .i64 0, .int .i64 0, .int .i64 0, .int .i64 0, .int .i64 0, .int .i64 0, .int .i64 0, .int .i64 0, .int .i64 0, .int .i64 0] 46) = w1 := ⟨_, rfl⟩
  have s1 : w1.heap.size = g + 2 := by rw [← hw1, ← hg]; simp
  have B1 : Below g w w1 := by rw [← hw1, ← hg]; exact ((Below.refl _ w).alloc (Nat.le_refl _) _).alloc (by simp) _
  have V1 : Vb w1 g 32 [.int .i64 (x : Nat), .int .i64 (q : Nat), .int .i64 (n : Nat)] := by rw [← hw1, ← hg]; exact (Vb.new w 32 _).old _
  have R1 : Vb w1 (g + 1) 46 (ivs zr64) := by
    rw [← hw1, ← hg]
    have := zr64_new (w.alloc (.cells #[.int .i64 (x : Nat), .int .i64 (q : Nat), .int .i64 (n : Nat)] 32))
    rw [World.size_alloc] at this
    exact this
  obtain ⟨w2, hw2⟩ : ∃ w2, w1.alloc (.cells #[.int .i64 0, .int .i64 0, .int .i64 0, .int .i64 0, .int .i64 0, .int .i64 0, .int .i64 0, .int .i64 0, .int .i64 0, .int .i64 0, .int .i64 0, .int .i64 0, .int .i64 0, .int .i64 0, .int .i64 0, .int .i64 0, .int .i64 0, .int .i64 0, .int .i64 0, .int .i64 0, .int .i64 0, .int .i64 0, .int .i64 0, .int .i64 0, .int .i64 0, .int .i64 0, .int .i64 0, .int .i64 0, .int .i64 0, .int .i64 0, .int .i64 0, .int .i64 0, .int .i64 0, .int .i64 0, .int .i64 0, .int .i64 0, .int .i64 0, .int .i64 0, .int .i64 0, .int .i64 0, .int .i64 0, .int .i64 0, .int .i64 0, .int .i64 0, .int .i64 0, .int .i64 0, .int .i64 0, .int .i64 0, .int .i64 0, .int .i64 0, .int .i64 0, .int .i64 0, .int .i64 0, .int .i64 0, .int .i64 0, .int .i64 0, .int .i64 0, .int .i64 0, .int .i64 0, .int .i64 0, .int .i64 0, .int .i64 0, .int .i64 0, .int .i64 0] 46) = w2 := ⟨_, rfl⟩
  have s2 : w2.heap.size = g + 3 := by rw [← hw2]; simp [s1]
  have B12 : Below w1.heap.size w1 w2 := by rw [← hw2]; exact (Below.refl _ w1).alloc (Nat.le_refl _) _
  have B2 : Below g w w2 := B1.trans (B12.mono (by omega))
  have L2 : Vb w2 (g + 2) 46 (ivs zr64) := by
    rw [← hw2]
    have := zr64_new w1
    rw [s1] at this
    exact this
  have hbg : b < g := by have := hs.lt; omega
  have S1 := hs.below B1 hbg
  have rng := S1.range
  have hZl := hs.1
  have HSB : Hid (∀ W, Keeps (fun j => j = g + 1 ∨ j = g + 2) w2 W → Sb W b Z (t : Nat) k e h f) := hide (fun W hk => ((S1.mono B12)).keeps hk (fun e => by omega))
  have HVV : Hid (∀ W, Keeps (fun j => j = g + 1 ∨ j = g + 2) w2 W → Vb W g 32 [.int .i64 (x : Nat), .int .i64 (q : Nat), .int .i64 (n : Nat)]) := hide (fun W hk => (V1.mono B12).keeps hk (fun e => by omega))
  have HRR : Hid (∀ W, Keeps (fun j => j = g + 2) w2 W → Vb W (g + 1) 46 (ivs zr64)) := hide (fun W hk => (R1.mono B12).keeps hk (fun e => by omega))
  have HTK : Hid (∀ W, Sb W b Z (t : Nat) k e h f → Calls Tryz.prog 80 #[.pointer (some ⟨b, 0, none⟩), .agg #[.int .i64 (x : Nat), .int .i64 (q : Nat), .int .i64 (n : Nat)]] W fun r w' => r = .returned (.bool (tkB Z e x q)) ∧ Below W.heap.size W w') := hide (fun W hb => takesPassed_any b Z t k e h f hz x q n hx W hb)
  have HCY : Hid (∀ W, Sb W b Z (t : Nat) k e h f → Calls Tryz.prog 81 #[.pointer (some ⟨b, 0, none⟩), .agg #[.int .i64 (x : Nat), .int .i64 (q : Nat), .int .i64 (n : Nat)]] W fun r w' => r = .returned (cyV (cI Z x q)) ∧ Below W.heap.size W w') := hide (fun W hb => castlingBy_any b Z t k e h f hz x q n hx W hb)
  have HOF := hide (of_any t (n : Nat) (by omega) (by omega))
  have HFW := hide (forward_any t)
  have HOV : Hid (∀ i, i < 4 → ∀ W, Calls Tryz.prog 82 #[.agg #[.int .i64 (sdP i : Nat), .int .i64 (kgP i : Nat), .int .i64 (rkP i : Nat)]] W fun r w' => r = .returned (.int .i64 (cOv i : Nat)) ∧ Below W.heap.size W w') := hide (fun i hi W => over_any (sdP i) (kgP i) (rkP i) (cOv i) (drC i) (bw_cas hi).1.dd (bw_cas hi).1.oo (bw_cas hi).1.k64 W)
  have HB2 := hide B2
  have HS2 := hide s2
  have HZL := hide hZl
  have hx' : (x : Int) < 64 := by omega
  have hq' : (q : Int) < 64 := by omega
  have HBK := hide hbk
  have HBG := hide hbg
  clear hs S1 B1 B12 B2 V1 R1 hz hbk s2
  try rw [hg]
  go_enter Tryz.func49, Tryz.ntmps49
  go_upto_region 1 with fail
  try rw [hg]
  clear hw1
  go_upto_region 2 with (first
    | refine wpList_load_mid rfl 46 _ rfl b 0 rfl (ivs Z) _ rng Tryz.underlying46 rfl (size51' hZl) ?_
    | (refine wpList_store_pl rfl (.tmp 5) (.tmp 11) rfl (g + 2) hZl (by simp [Act.eval]) rfl zr64_len L2 ?_; intro w3 L3 K23))
  have HM : Hid (∀ W, Keeps (fun j => j = g + 2) w3 W → Vb W g 32 [.int .i64 (x : Nat), .int .i64 (q : Nat), .int .i64 (n : Nat)]) := hide (fun W hk => HVV.out W ((K23.trans hk).mono (fun _ _ e => Or.inr e)))
  have HS : Hid (∀ W, Keeps (fun j => j = g + 2) w3 W → Sb W b Z (t : Nat) k e h f) := hide (fun W hk => HSB.out W ((K23.trans hk).mono (fun _ _ e => Or.inr e)))
  have HK3 := hide K23
  clear K23 rng hw2 L2 hZl s1
  refine wp_region_held (S := fun W5 => Keeps (fun j => j = g + 2) w3 W5) (by kernel_rfl) ?_
  change wpAnyH _ _ _ _ _ _ _ _ (World.drew _)
  have SW : (fun W5 => Keeps (fun j => j = g + 2) w3 W5) w3.drew := (Keeps.refl _ w3).drew
  have Ld : Vb w3.drew (g + 2) 46 (ivs Z) := L3.mono (drewN_below _ _ 1)
  generalize w3.drew = wd at *
  refine wpAnyH_take (i := 0) (v := .pointer (some ⟨g, 0, none⟩)) rfl (by kernel_rfl) (by kernel_rfl) (by kernel_rfl) (fun _ _ _ h => h) (Or.inl ⟨by rfl, ?_⟩) SW ?_
  · intro W5 hW5
    go_simp <;> first | done | rfl | (rw [IntKind.wrap_i64]; omega) | omega
  go_simp
  refine wpAnyH_take (i := 1) (v := .int .i64 (x : Nat)) rfl (by kernel_rfl) (by kernel_rfl) (by kernel_rfl) (fun _ _ _ h => h) (Or.inl ⟨by rfl, ?_⟩) SW ?_
  · intro W5 hW5
    have y0 := (HM.out W5 hW5).cell (i := 0) rfl
    go_simp <;> first | done | rfl | (rw [IntKind.wrap_i64]; omega) | omega
  go_simp
  refine wpAnyH_take (i := 2) (v := .pointer (some ⟨g, 1, none⟩)) rfl (by kernel_rfl) (by kernel_rfl) (by kernel_rfl) (fun _ _ _ h => h) (Or.inl ⟨by rfl, ?_⟩) SW ?_
  · intro W5 hW5
    go_simp <;> first | done | rfl | (rw [IntKind.wrap_i64]; omega) | omega
  go_simp
  refine wpAnyH_take (i := 3) (v := .int .i64 (q : Nat)) rfl (by kernel_rfl) (by kernel_rfl) (by kernel_rfl) (fun _ _ _ h => h) (Or.inl ⟨by rfl, ?_⟩) SW ?_
  · intro W5 hW5
    have y0 := (HM.out W5 hW5).cell (i := 1) rfl
    go_simp <;> first | done | rfl | (rw [IntKind.wrap_i64]; omega) | omega
  go_simp
  refine wpAnyH_take (i := 4) (v := .pointer (some ⟨b, 0, none⟩)) rfl (by kernel_rfl) (by kernel_rfl) (by kernel_rfl) (fun _ _ _ h => h) (Or.inl ⟨by rfl, ?_⟩) SW ?_
  · intro W5 hW5
    go_simp <;> first | done | rfl | (rw [IntKind.wrap_i64]; omega) | omega
  go_simp
  refine wpAnyH_take (i := 5) (v := .pointer (some ⟨g, 0, none⟩)) rfl (by kernel_rfl) (by kernel_rfl) (by kernel_rfl) (fun _ _ _ h => h) (Or.inl ⟨by rfl, ?_⟩) SW ?_
  · intro W5 hW5
    go_simp <;> first | done | rfl | (rw [IntKind.wrap_i64]; omega) | omega
  go_simp
  refine wpAnyH_take (i := 6) (v := .int .i64 (x : Nat)) rfl (by kernel_rfl) (by kernel_rfl) (by kernel_rfl) (fun _ _ _ h => h) (Or.inl ⟨by rfl, ?_⟩) SW ?_
  · intro W5 hW5
    have y0 := (HM.out W5 hW5).cell (i := 0) rfl
    go_simp <;> first | done | rfl | (rw [IntKind.wrap_i64]; omega) | omega
  go_simp
  refine wpAnyH_take (i := 7) (v := .pointer (some ⟨b, 0, none⟩)) rfl (by kernel_rfl) (by kernel_rfl) (by kernel_rfl) (fun _ _ _ h => h) (Or.inl ⟨by rfl, ?_⟩) SW ?_
  · intro W5 hW5
    go_simp <;> first | done | rfl | (rw [IntKind.wrap_i64]; omega) | omega
  go_simp
  refine wpAnyH_take (i := 8) (v := .pointer (some ⟨b, 0, none⟩)) rfl (by kernel_rfl) (by kernel_rfl) (by kernel_rfl) (fun _ _ _ h => h) (Or.inl ⟨by rfl, ?_⟩) SW ?_
  · intro W5 hW5
    go_simp <;> first | done | rfl | (rw [IntKind.wrap_i64]; omega) | omega
  go_simp
  refine wpAnyH_take (i := 9) (v := .pointer (some ⟨b, x, none⟩)) rfl (by kernel_rfl) (by kernel_rfl) (by kernel_rfl) (fun _ _ _ h => h) (Or.inl ⟨by rfl, ?_⟩) SW ?_
  · intro W5 hW5
    go_simp <;> first | done | rfl | (rw [IntKind.wrap_i64]; omega) | omega
  go_simp
  refine wpAnyH_take (i := 10) (v := .int .i64 (zg Z x)) rfl (by kernel_rfl) (by kernel_rfl) (by kernel_rfl) (fun _ _ _ h => h) (Or.inl ⟨by rfl, ?_⟩) SW ?_
  · intro W5 hW5
    have y0 := (HS.out W5 hW5).at hx
    go_simp <;> first | done | rfl | (rw [IntKind.wrap_i64]; omega) | omega
  go_simp
  refine wpAnyH_take (i := 11) (v := .pointer (some ⟨g + 2, x, none⟩)) rfl (by kernel_rfl) (by kernel_rfl) (by kernel_rfl) (fun _ _ _ h => h) (Or.inl ⟨by rfl, ?_⟩) SW ?_
  · intro W5 hW5
    go_simp <;> first | done | rfl | (rw [IntKind.wrap_i64]; omega) | omega
  go_simp
  have c1 := Ld.cellI (i := x) (by rw [HZL.out]; exact hx)
  have f1 := Ld.frozen x
  refine wpAnyH_ready (rs := [12]) (by kernel_rfl) (by simp) ?_
  refine AllReadyH.cons rfl (fun K1 hK1 => ?_) AllReadyH.nil
  go_simp
  refine hK1.out _ _ (SW.trans (Keeps.set1 _ _ _ _)) (fun SW => ?_)
  clear hK1 K1
  have L4 : Vb (wd.setCell ⟨g + 2, x, none⟩ (.int .i64 0)) (g + 2) 46 (ivs (Z.set x 0)) := Ld.setI x 0
  generalize wd.setCell ⟨g + 2, x, none⟩ (.int .i64 0) = wx at *
  clear c1 f1 Ld
  go_simp
  refine wpAnyH_take (i := 13) (v := .pointer (some ⟨g + 2, q, none⟩)) rfl (by kernel_rfl) (by kernel_rfl) (by kernel_rfl) (fun _ _ _ h => h) (Or.inl ⟨by rfl, ?_⟩) SW ?_
  · intro W5 hW5
    go_simp <;> first | done | rfl | (rw [IntKind.wrap_i64]; omega) | omega
  go_simp
  have c2 := L4.cellI (i := q) (by rw [List.length_set, HZL.out]; exact hq)
  have f2 := L4.frozen q
  refine wpAnyH_ready (rs := [14]) (by kernel_rfl) (by simp) ?_
  refine AllReadyH.cons rfl (fun K1 hK1 => ?_) AllReadyH.nil
  go_simp
  refine hK1.out _ _ (SW.trans (Keeps.set1 _ _ _ _)) (fun SW => ?_)
  clear hK1 K1
  have L5 : Vb (wx.setCell ⟨g + 2, q, none⟩ (.int .i64 (zg Z x))) (g + 2) 46 (ivs (mv1 Z x q)) := by rw [← mv1_eq]; exact L4.setI q _
  generalize wx.setCell ⟨g + 2, q, none⟩ (.int .i64 (zg Z x)) = wy at *
  clear c2 f2 L4
  go_simp
  refine wpAnyH_done (by kernel_rfl) ?_ _
  have SY := SW
  have y2 := (HM.out wy SY).cell (i := 2) rfl
  clear SW
  go_upto_if 27 with fail
  go_cut [] from 8 (fun wc => Hid (Vb wc (g + 2) 46 (ivs (mv2 Z t x q n)) ∧ Keeps (fun j => j = g + 2) w3 wc))
  case first =>
    by_cases hn0 : n = 0
    · subst hn0
      go_wp2_with fail
      go_meet
      case rel => exact hide ⟨by rw [mv2_zero]; exact L5, SY⟩
    · have hn1 : ((n : Int) != 0) = true := by simp; omega
      clear y2
      go_upto_region 4 with fail
      refine wp_region_held (S := fun W5 => Keeps (fun j => j = g + 2) w3 W5) (by kernel_rfl) ?_
      change wpAnyH _ _ _ _ _ _ _ _ (World.drew _)
      have SW : (fun W5 => Keeps (fun j => j = g + 2) w3 W5) wy.drew := SY.drew
      have Ld : Vb wy.drew (g + 2) 46 (ivs (mv1 Z x q)) := L5.mono (drewN_below _ _ 1)
      generalize wy.drew = wd at *
      refine wpAnyH_take (i := 0) (v := .pointer (some ⟨g, 1, none⟩)) rfl (by kernel_rfl) (by kernel_rfl) (by kernel_rfl) (fun _ _ _ h => h) (Or.inl ⟨by rfl, ?_⟩) SW ?_
      · intro W5 hW5
        go_simp <;> first | done | rfl | (rw [IntKind.wrap_i64]; omega) | omega
      go_simp
      refine wpAnyH_take (i := 1) (v := .int .i64 (q : Nat)) rfl (by kernel_rfl) (by kernel_rfl) (by kernel_rfl) (fun _ _ _ h => h) (Or.inl ⟨by rfl, ?_⟩) SW ?_
      · intro W5 hW5
        have y0 := (HM.out W5 hW5).cell (i := 1) rfl
        go_simp <;> first | done | rfl | (rw [IntKind.wrap_i64]; omega) | omega
      go_simp
      refine wpAnyH_take (i := 2) (v := .pointer (some ⟨b, 0, none⟩)) rfl (by kernel_rfl) (by kernel_rfl) (by kernel_rfl) (fun _ _ _ h => h) (Or.inl ⟨by rfl, ?_⟩) SW ?_
      · intro W5 hW5
        go_simp <;> first | done | rfl | (rw [IntKind.wrap_i64]; omega) | omega
      go_simp
      refine wpAnyH_take (i := 3) (v := .pointer (some ⟨b, 0, none⟩)) rfl (by kernel_rfl) (by kernel_rfl) (by kernel_rfl) (fun _ _ _ h => h) (Or.inl ⟨by rfl, ?_⟩) SW ?_
      · intro W5 hW5
        go_simp <;> first | done | rfl | (rw [IntKind.wrap_i64]; omega) | omega
      go_simp
      refine wpAnyH_take (i := 4) (v := .pointer (some ⟨b, 64, none⟩)) rfl (by kernel_rfl) (by kernel_rfl) (by kernel_rfl) (fun _ _ _ h => h) (Or.inl ⟨by rfl, ?_⟩) SW ?_
      · intro W5 hW5
        go_simp <;> first | done | rfl | (rw [IntKind.wrap_i64]; omega) | omega
      go_simp
      refine wpAnyH_take (i := 5) (v := .int .i64 (t : Nat)) rfl (by kernel_rfl) (by kernel_rfl) (by kernel_rfl) (fun _ _ _ h => h) (Or.inl ⟨by rfl, ?_⟩) SW ?_
      · intro W5 hW5
        have y0 := (HS.out W5 hW5).ends.1
        go_simp <;> first | done | rfl | (rw [IntKind.wrap_i64]; omega) | omega
      go_simp
      refine wpAnyH_take (i := 6) (v := .pointer (some ⟨g, 2, none⟩)) rfl (by kernel_rfl) (by kernel_rfl) (by kernel_rfl) (fun _ _ _ h => h) (Or.inl ⟨by rfl, ?_⟩) SW ?_
      · intro W5 hW5
        go_simp <;> first | done | rfl | (rw [IntKind.wrap_i64]; omega) | omega
      go_simp
      refine wpAnyH_take (i := 7) (v := .int .i64 (n : Nat)) rfl (by kernel_rfl) (by kernel_rfl) (by kernel_rfl) (fun _ _ _ h => h) (Or.inl ⟨by rfl, ?_⟩) SW ?_
      · intro W5 hW5
        have y0 := (HM.out W5 hW5).cell (i := 2) rfl
        go_simp <;> first | done | rfl | (rw [IntKind.wrap_i64]; omega) | omega
      go_simp
      refine wpAnyH_ready (rs := [8]) (by kernel_rfl) (by simp) ?_
      refine AllReadyH.cons rfl (fun K1 hK1 => ?_) AllReadyH.nil
      go_simp
      refine (HOF.out _).mono ?_
      rintro r w5 ⟨rfl, hw⟩
      subst w5
      refine hK1.out _ _ SW (fun SW => ?_)
      clear hK1 K1
      go_simp
      refine wpAnyH_take (i := 9) (v := .pointer (some ⟨g + 2, q, none⟩)) rfl (by kernel_rfl) (by kernel_rfl) (by kernel_rfl) (fun _ _ _ h => h) (Or.inl ⟨by rfl, ?_⟩) SW ?_
      · intro W5 hW5
        go_simp <;> first | done | rfl | (rw [IntKind.wrap_i64]; omega) | omega
      go_simp
      have c1 := Ld.cellI (i := q) (by rw [mv1_len, HZL.out]; exact hq)
      have f1 := Ld.frozen q
      refine wpAnyH_ready (rs := [10]) (by kernel_rfl) (by simp) ?_
      refine AllReadyH.cons rfl (fun K1 hK1 => ?_) AllReadyH.nil
      go_simp
      refine hK1.out _ _ (SW.trans (Keeps.set1 _ _ _ _)) (fun SW => ?_)
      clear hK1 K1
      have L6 : Vb (wd.setCell ⟨g + 2, q, none⟩ (.int .i64 (pci t n))) (g + 2) 46 (ivs (mv2 Z t x q n)) := by rw [mv2_pos hn0]; exact Ld.setI q _
      generalize wd.setCell ⟨g + 2, q, none⟩ (.int .i64 (pci t n)) = wz at *
      clear c1 f1 Ld
      go_simp
      refine wpAnyH_done (by kernel_rfl) ?_ _
      go_wp2_with fail
      go_meet
      case rel => exact hide ⟨L6, SW⟩
  case rest =>
    clear L5 SY y2
    rename World => w6
    obtain ⟨L6, S6⟩ := hcut.out
    have rng6 := (HM.out _ S6).range
    go_wp2_with (refine wpList_load_mid rfl 32 _ rfl g 0 rfl [.int .i64 (x : Nat), .int .i64 (q : Nat), .int .i64 (n : Nat)] _ rng6 Tryz.underlying32 rfl size26 ?_)
    refine (HTK.out _ (HS.out _ S6)).mono ?_
    rintro r w7 ⟨rfl, hb7⟩
    have S7 := S6.trans (Keeps.of_all hb7)
    have HL7 := hide (L6.mono hb7)
    clear hcut L6 S6 rng6 hb7
    go_upto_if 40 with fail
    go_cut [] from 8 (fun wc => Hid (Vb wc (g + 2) 46 (ivs (mv3 Z t e x q n)) ∧ Keeps (fun j => j = g + 2) w3 wc))
    case first =>
      cases htk : tkB Z e x q with
      | false =>
        go_wp2_with fail
        go_meet
        case rel => exact hide ⟨by rw [mv3_no htk]; exact HL7.out, S7⟩
      | true =>
        obtain ⟨hb1, hb2⟩ := HBK.out htk
        have HM3 : Hid (mv3 Z t e x q n = (mv2 Z t x q n).set (bk t q) 0) := hide (mv3_yes htk)
        generalize bk t q = bq at *
        generalize pci t 8 = p8 at *
        have hb1' : (bq : Int) < 64 := by omega
        clear htk HBK
        go_upto_region 6 with fail
        refine wp_region_held (S := fun W5 => Keeps (fun j => j = g + 2) w3 W5) (by kernel_rfl) ?_
        change wpAnyH _ _ _ _ _ _ _ _ (World.drew _)
        have SW : (fun W5 => Keeps (fun j => j = g + 2) w3 W5) w7.drew := S7.drew
        have Ld : Vb w7.drew (g + 2) 46 (ivs (mv2 Z t x q n)) := HL7.out.mono (drewN_below _ _ 1)
        generalize w7.drew = wd at *
        refine wpAnyH_take (i := 0) (v := .pointer (some ⟨g, 1, none⟩)) rfl (by kernel_rfl) (by kernel_rfl) (by kernel_rfl) (fun _ _ _ h => h) (Or.inl ⟨by rfl, ?_⟩) SW ?_
        · intro W5 hW5
          go_simp <;> first | done | rfl | (rw [IntKind.wrap_i64]; omega) | omega
        go_simp
        refine wpAnyH_take (i := 1) (v := .int .i64 (q : Nat)) rfl (by kernel_rfl) (by kernel_rfl) (by kernel_rfl) (fun _ _ _ h => h) (Or.inl ⟨by rfl, ?_⟩) SW ?_
        · intro W5 hW5
          have y0 := (HM.out W5 hW5).cell (i := 1) rfl
          go_simp <;> first | done | rfl | (rw [IntKind.wrap_i64]; omega) | omega
        go_simp
        refine wpAnyH_take (i := 2) (v := .pointer (some ⟨b, 0, none⟩)) rfl (by kernel_rfl) (by kernel_rfl) (by kernel_rfl) (fun _ _ _ h => h) (Or.inl ⟨by rfl, ?_⟩) SW ?_
        · intro W5 hW5
          go_simp <;> first | done | rfl | (rw [IntKind.wrap_i64]; omega) | omega
        go_simp
        refine wpAnyH_take (i := 3) (v := .pointer (some ⟨b, 0, none⟩)) rfl (by kernel_rfl) (by kernel_rfl) (by kernel_rfl) (fun _ _ _ h => h) (Or.inl ⟨by rfl, ?_⟩) SW ?_
        · intro W5 hW5
          go_simp <;> first | done | rfl | (rw [IntKind.wrap_i64]; omega) | omega
        go_simp
        refine wpAnyH_take (i := 4) (v := .pointer (some ⟨b, 64, none⟩)) rfl (by kernel_rfl) (by kernel_rfl) (by kernel_rfl) (fun _ _ _ h => h) (Or.inl ⟨by rfl, ?_⟩) SW ?_
        · intro W5 hW5
          go_simp <;> first | done | rfl | (rw [IntKind.wrap_i64]; omega) | omega
        go_simp
        refine wpAnyH_take (i := 5) (v := .int .i64 (t : Nat)) rfl (by kernel_rfl) (by kernel_rfl) (by kernel_rfl) (fun _ _ _ h => h) (Or.inl ⟨by rfl, ?_⟩) SW ?_
        · intro W5 hW5
          have y0 := (HS.out W5 hW5).ends.1
          go_simp <;> first | done | rfl | (rw [IntKind.wrap_i64]; omega) | omega
        go_simp
        refine wpAnyH_ready (rs := [6]) (by kernel_rfl) (by simp) ?_
        refine AllReadyH.cons rfl (fun K1 hK1 => ?_) AllReadyH.nil
        go_simp
        refine (HFW.out _).mono ?_
        rintro r w5 ⟨rfl, hw⟩
        subst w5
        refine hK1.out _ _ SW (fun SW => ?_)
        clear hK1 K1
        go_simp
        refine wpAnyH_take (i := 7) (v := .int .i64 (bq : Nat)) rfl (by kernel_rfl) (by kernel_rfl) (by kernel_rfl) (fun _ _ _ h => h) (Or.inl ⟨by rfl, ?_⟩) SW ?_
        · intro W5 hW5
          go_simp <;> first | done | rfl | (rw [IntKind.wrap_i64]; omega) | omega
        go_simp
        refine wpAnyH_take (i := 8) (v := .pointer (some ⟨g + 2, bq, none⟩)) rfl (by kernel_rfl) (by kernel_rfl) (by kernel_rfl) (fun _ _ _ h => h) (Or.inl ⟨by rfl, ?_⟩) SW ?_
        · intro W5 hW5
          go_simp <;> first | done | rfl | (rw [IntKind.wrap_i64]; omega) | omega
        go_simp
        have c1 := Ld.cellI (i := bq) (by rw [mv2_len, HZL.out]; omega)
        have f1 := Ld.frozen bq
        refine wpAnyH_ready (rs := [9]) (by kernel_rfl) (by simp) ?_
        refine AllReadyH.cons rfl (fun K1 hK1 => ?_) AllReadyH.nil
        go_simp
        refine hK1.out _ _ (SW.trans (Keeps.set1 _ _ _ _)) (fun SW => ?_)
        clear hK1 K1
        have L8 : Vb (wd.setCell ⟨g + 2, bq, none⟩ (.int .i64 0)) (g + 2) 46 (ivs (mv3 Z t e x q n)) := by rw [HM3.out]; exact Ld.setI bq _
        generalize wd.setCell ⟨g + 2, bq, none⟩ (.int .i64 0) = wz at *
        clear c1 f1 Ld
        go_simp
        refine wpAnyH_done (by kernel_rfl) ?_ _
        go_wp2_with fail
        go_meet
        case rel => exact hide ⟨L8, SW⟩
    case rest =>
      clear HL7 S7
      rename World => w8
      obtain ⟨L8, S8⟩ := hcut.out
      have rng8 := (HM.out _ S8).range
      go_wp2_with (refine wpList_load_mid rfl 32 _ rfl g 0 rfl [.int .i64 (x : Nat), .int .i64 (q : Nat), .int .i64 (n : Nat)] _ rng8 Tryz.underlying32 rfl size26 ?_)
      refine (HCY.out _ (HS.out _ S8)).mono ?_
      rintro r w9 ⟨rfl, hb9⟩
      have S9 := S8.trans (Keeps.of_all hb9)
      have L9 := L8.mono hb9
      clear hcut L8 S8 rng8 hb9
      obtain ⟨c, hc⟩ : ∃ c, w9.heap.size = c := ⟨_, rfl⟩
      obtain ⟨w9a, hw9a⟩ : ∃ w9a, w9.alloc (.cells #[.int .i64 0, .int .i64 0, .int .i64 0] 106) = w9a := ⟨_, rfl⟩
      have B9a : Below w9.heap.size w9 w9a := by rw [← hw9a]; exact (Below.refl _ w9).alloc (Nat.le_refl _) _
      have V9a : Vb w9a c 106 [.int .i64 0, .int .i64 0, .int .i64 0] := by rw [← hw9a, ← hc]; exact Vb.new w9 106 _
      have hcg : g + 3 ≤ c := by have := HS2.out; have := HK3.out.size; have := S9.size; omega
      have S9a := S9.trans (Keeps.of_all B9a)
      have L9a := L9.mono B9a
      clear L9 B9a S9
      cases hci : cI Z x q with
      | none =>
        have HMZ : Hid (mvZ Z t e x q n = mv3 Z t e x q n) := hide (mvZ_none hci)
        rw [cyV_none]
        go_upto_region 8 with (refine wpList_store_cs rfl (.tmp 6) (.tmp 54) rfl c rfl rfl V9a ?_; intro w10 V10 K10)
        have L10 : Vb w10 (g + 2) 46 (ivs (mvZ Z t e x q n)) := by rw [HMZ.out]; exact L9a.keeps K10 (by omega)
        have S10 : Keeps (fun j => j = g + 2) w2 w10 := (HK3.out.trans S9a).after K10 (fun j hj e => by have := HS2.out; omega)
        clear K10 V10 S9a L9a V9a
        have hLl : (mvZ Z t e x q n).length = 64 := by rw [mvZ_len]; exact HZL.out
        have rngL := L10.range
        have RRw := HRR.out w10 S10
        go_wp2_with (first
          | refine wpList_load_mid rfl 46 _ rfl (g + 2) 0 rfl (ivs (mvZ Z t e x q n)) _ rngL Tryz.underlying46 rfl (size51' hLl) ?_
          | (refine wpList_store_pl rfl (.tmp 4) (.tmp 70) rfl (g + 1) hLl rfl rfl zr64_len RRw ?_; intro w20 L20 K20))
        refine bodyPost_ret (results_row rfl _ _ (g + 1) rfl (run_loadVar_row _ _ 46 46 _ (0, 0) _ L20 Tryz.underlying46 rfl (by rw [size51, List.size_toArray, ivs_length, hLl]))) rfl ⟨rfl, ?_⟩
        have kk : Keeps (fun j => j = g + 1 ∨ j = g + 2) w2 w20 := ((S10).mono (fun _ _ e => Or.inr e)).trans (K20.mono (fun _ _ e => Or.inl e))
        exact HB2.out.trans (kk.below (by have := HS2.out; omega) (fun j hj e => by omega))
      | some i =>
        have hi4 := (cI_some hci).2.1
        have HMZ : Hid (mvZ Z t e x q n = ((mv3 Z t e x q n).set (rkP i) 0).set (cOv i) (zg Z (rkP i))) := hide (mvZ_some hci)
        have hpl := cas_pl hi4
        have hri : rkP i < 64 := hpl.1
        have hoi : cOv i < 64 := hpl.2.1
        have HOVi := hide (HOV.out i hi4)
        rw [cyV_some]
        clear hpl hci HOV
        generalize sdP i = si at *
        generalize kgP i = ki at *
        generalize rkP i = ri at *
        generalize cOv i = oi at *
        have hri' : (ri : Int) < 64 := by omega
        have hoi' : (oi : Int) < 64 := by omega
        go_upto_region 8 with (refine wpList_store_cs rfl (.tmp 6) (.tmp 54) rfl c rfl rfl V9a ?_; intro w10 V10 K10)
        have L10 := L9a.keeps K10 (show ¬ g + 2 = c by omega)
        have S10 : Keeps (fun j => j = g + 2) w2 w10 := (HK3.out.trans S9a).after K10 (fun j hj e => by have := HS2.out; omega)
        have HV10 : Hid (∀ W, Keeps (fun j => j = g + 2) w10 W → Vb W c 106 [.int .i64 (si : Nat), .int .i64 (ki : Nat), .int .i64 (ri : Nat)]) := hide (fun W hk => V10.keeps hk (fun e => by omega))
        have HS10 : Hid (∀ W, Keeps (fun j => j = g + 2) w10 W → Sb W b Z (t : Nat) k e h f) := hide (fun W hk => HSB.out W ((S10.trans hk).mono (fun _ _ e => Or.inr e)))
        clear V10 K10 S9a L9a V9a
        go_upto_region 9 with fail
        refine wp_region_held (S := fun W5 => Keeps (fun j => j = g + 2) w10 W5) (by kernel_rfl) ?_
        change wpAnyH _ _ _ _ _ _ _ _ (World.drew _)
        have SW : (fun W5 => Keeps (fun j => j = g + 2) w10 W5) w10.drew := (Keeps.refl _ w10).drew
        have Ld : Vb w10.drew (g + 2) 46 (ivs (mv3 Z t e x q n)) := L10.mono (drewN_below _ _ 1)
        generalize w10.drew = wd at *
        refine wpAnyH_take (i := 0) (v := .pointer (some ⟨c, 2, none⟩)) rfl (by kernel_rfl) (by kernel_rfl) (by kernel_rfl) (fun _ _ _ h => h) (Or.inl ⟨by rfl, ?_⟩) SW ?_
        · intro W5 hW5
          go_simp <;> first | done | rfl | (rw [IntKind.wrap_i64]; omega) | omega
        go_simp
        refine wpAnyH_take (i := 1) (v := .int .i64 (ri : Nat)) rfl (by kernel_rfl) (by kernel_rfl) (by kernel_rfl) (fun _ _ _ h => h) (Or.inl ⟨by rfl, ?_⟩) SW ?_
        · intro W5 hW5
          have y0 := (HV10.out W5 hW5).cell (i := 2) rfl
          go_simp <;> first | done | rfl | (rw [IntKind.wrap_i64]; omega) | omega
        go_simp
        refine wpAnyH_take (i := 2) (v := .agg #[.int .i64 (si : Nat), .int .i64 (ki : Nat), .int .i64 (ri : Nat)]) rfl (by kernel_rfl) (by kernel_rfl) (by kernel_rfl) (fun _ _ _ h => h) (yieldsIf_load_mid (by rfl) 106 _ rfl c 0 (by rfl) [.int .i64 (si : Nat), .int .i64 (ki : Nat), .int .i64 (ri : Nat)] _ (fun W hW => (HV10.out W hW).range) Tryz.underlying106 rfl (by exact size105)) SW ?_
        go_simp
        refine wpAnyH_take (i := 4) (v := .pointer (some ⟨b, 0, none⟩)) rfl (by kernel_rfl) (by kernel_rfl) (by kernel_rfl) (fun _ _ _ h => h) (Or.inl ⟨by rfl, ?_⟩) SW ?_
        · intro W5 hW5
          go_simp <;> first | done | rfl | (rw [IntKind.wrap_i64]; omega) | omega
        go_simp
        refine wpAnyH_take (i := 5) (v := .pointer (some ⟨c, 2, none⟩)) rfl (by kernel_rfl) (by kernel_rfl) (by kernel_rfl) (fun _ _ _ h => h) (Or.inl ⟨by rfl, ?_⟩) SW ?_
        · intro W5 hW5
          go_simp <;> first | done | rfl | (rw [IntKind.wrap_i64]; omega) | omega
        go_simp
        refine wpAnyH_take (i := 6) (v := .int .i64 (ri : Nat)) rfl (by kernel_rfl) (by kernel_rfl) (by kernel_rfl) (fun _ _ _ h => h) (Or.inl ⟨by rfl, ?_⟩) SW ?_
        · intro W5 hW5
          have y0 := (HV10.out W5 hW5).cell (i := 2) rfl
          go_simp <;> first | done | rfl | (rw [IntKind.wrap_i64]; omega) | omega
        go_simp
        refine wpAnyH_take (i := 7) (v := .pointer (some ⟨b, 0, none⟩)) rfl (by kernel_rfl) (by kernel_rfl) (by kernel_rfl) (fun _ _ _ h => h) (Or.inl ⟨by rfl, ?_⟩) SW ?_
        · intro W5 hW5
          go_simp <;> first | done | rfl | (rw [IntKind.wrap_i64]; omega) | omega
        go_simp
        refine wpAnyH_take (i := 8) (v := .pointer (some ⟨b, 0, none⟩)) rfl (by kernel_rfl) (by kernel_rfl) (by kernel_rfl) (fun _ _ _ h => h) (Or.inl ⟨by rfl, ?_⟩) SW ?_
        · intro W5 hW5
          go_simp <;> first | done | rfl | (rw [IntKind.wrap_i64]; omega) | omega
        go_simp
        refine wpAnyH_take (i := 9) (v := .pointer (some ⟨b, ri, none⟩)) rfl (by kernel_rfl) (by kernel_rfl) (by kernel_rfl) (fun _ _ _ h => h) (Or.inl ⟨by rfl, ?_⟩) SW ?_
        · intro W5 hW5
          go_simp <;> first | done | rfl | (rw [IntKind.wrap_i64]; omega) | omega
        go_simp
        refine wpAnyH_take (i := 10) (v := .int .i64 (zg Z ri)) rfl (by kernel_rfl) (by kernel_rfl) (by kernel_rfl) (fun _ _ _ h => h) (Or.inl ⟨by rfl, ?_⟩) SW ?_
        · intro W5 hW5
          have y0 := (HS10.out W5 hW5).at hri
          go_simp <;> first | done | rfl | (rw [IntKind.wrap_i64]; omega) | omega
        go_simp
        refine wpAnyH_take (i := 11) (v := .pointer (some ⟨g + 2, ri, none⟩)) rfl (by kernel_rfl) (by kernel_rfl) (by kernel_rfl) (fun _ _ _ h => h) (Or.inl ⟨by rfl, ?_⟩) SW ?_
        · intro W5 hW5
          go_simp <;> first | done | rfl | (rw [IntKind.wrap_i64]; omega) | omega
        go_simp
        refine wpAnyH_ready (rs := [3]) (by kernel_rfl) (by simp) ?_
        refine AllReadyH.cons rfl (fun K1 hK1 => ?_) AllReadyH.nil
        go_simp
        refine (HOVi.out _).mono ?_
        rintro r w12 ⟨rfl, hb12⟩
        have S12 := SW.trans (Keeps.of_all hb12)
        have L12 := Ld.mono hb12
        refine hK1.out _ _ S12 (fun SW => ?_)
        clear hK1 K1 hb12 S12 Ld
        go_simp
        have c1 := L12.cellI (i := ri) (by rw [mv3_len, HZL.out]; exact hri)
        have f1 := L12.frozen ri
        refine wpAnyH_ready (rs := [12]) (by kernel_rfl) (by simp) ?_
        refine AllReadyH.cons rfl (fun K1 hK1 => ?_) AllReadyH.nil
        go_simp
        refine hK1.out _ _ (SW.trans (Keeps.set1 _ _ _ _)) (fun SW => ?_)
        clear hK1 K1
        have L13 : Vb (w12.setCell ⟨g + 2, ri, none⟩ (.int .i64 0)) (g + 2) 46 (ivs ((mv3 Z t e x q n).set ri 0)) := L12.setI ri _
        generalize w12.setCell ⟨g + 2, ri, none⟩ (.int .i64 0) = w13 at *
        clear c1 f1 L12
        go_simp
        refine wpAnyH_take (i := 13) (v := .pointer (some ⟨g + 2, oi, none⟩)) rfl (by kernel_rfl) (by kernel_rfl) (by kernel_rfl) (fun _ _ _ h => h) (Or.inl ⟨by rfl, ?_⟩) SW ?_
        · intro W5 hW5
          go_simp <;> first | done | rfl | (rw [IntKind.wrap_i64]; omega) | omega
        go_simp
        have c2 := L13.cellI (i := oi) (by rw [List.length_set, mv3_len, HZL.out]; exact hoi)
        have f2 := L13.frozen oi
        refine wpAnyH_ready (rs := [14]) (by kernel_rfl) (by simp) ?_
        refine AllReadyH.cons rfl (fun K1 hK1 => ?_) AllReadyH.nil
        go_simp
        refine hK1.out _ _ (SW.trans (Keeps.set1 _ _ _ _)) (fun SW => ?_)
        clear hK1 K1
        have L14 : Vb (w13.setCell ⟨g + 2, oi, none⟩ (.int .i64 (zg Z ri))) (g + 2) 46 (ivs (mvZ Z t e x q n)) := by rw [HMZ.out]; exact L13.setI oi _
        generalize w13.setCell ⟨g + 2, oi, none⟩ (.int .i64 (zg Z ri)) = w14 at *
        clear c2 f2 L13
        go_simp
        refine wpAnyH_done (by kernel_rfl) ?_ _
        have hLl : (mvZ Z t e x q n).length = 64 := by rw [mvZ_len]; exact HZL.out
        have rngL := L14.range
        have RRw := HRR.out w14 (S10.trans SW)
        go_wp2_with (first
          | refine wpList_load_mid rfl 46 _ rfl (g + 2) 0 rfl (ivs (mvZ Z t e x q n)) _ rngL Tryz.underlying46 rfl (size51' hLl) ?_
          | (refine wpList_store_pl rfl (.tmp 4) (.tmp 70) rfl (g + 1) hLl rfl rfl zr64_len RRw ?_; intro w20 L20 K20))
        refine bodyPost_ret (results_row rfl _ _ (g + 1) rfl (run_loadVar_row _ _ 46 46 _ (0, 0) _ L20 Tryz.underlying46 rfl (by rw [size51, List.size_toArray, ivs_length, hLl]))) rfl ⟨rfl, ?_⟩
        have kk : Keeps (fun j => j = g + 1 ∨ j = g + 2) w2 w20 := (((S10.trans SW)).mono (fun _ _ e => Or.inr e)).trans (K20.mono (fun _ _ e => Or.inl e))
        exact HB2.out.trans (kk.below (by have := HS2.out; omega) (fun j hj e => by omega))

end Go.Proofs.YtdmlamnonbmboaaGreatDoor
