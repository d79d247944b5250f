/-
  Chess: the program's list of moves is the document's. No conditions beyond those that each theorem bears.
  Chess: a state of a game in a block, and small questions to it, walked. No conditions beyond those that each theorem bears.
  Chess: the king's place, one's own pieces, where a piece may enter, the places ahead of a pawn: walked. No conditions beyond those that each theorem bears.
-/
import Derived.Test.YtdmlamnonbmboaaGreatDoorV21
import Derived.Test.YtdmlamnonbmboaaGreatDoorV19
namespace Go.Proofs.YtdmlamnonbmboaaGreatDoor
set_option maxRecDepth 20000

theorem own_zero {Z : List Int} {s q : Nat} (h : zg Z q = 0) : ownB Z s q = false := by
  unfold ownB; rw [h]; unfold pci; split <;> simp
theorem own_one {Z : List Int} {t q : Nat} (ht : t ≤ 1) (h : ownB Z (1 - t) q = true) : ownB Z t q = false := by
  unfold ownB at *
  have := of_decide_eq_true h
  refine decide_eq_false ?_
  unfold pci at *
  have : t = 0 ∨ t = 1 := by omega
  rcases this with rfl | rfl <;> simp at * <;> omega

/-- One's own pieces are not taken. -/
theorem tg_no {Z : List Int} {t : Nat} {k e : Int} {f q : Nat} (ht : t ≤ 1) (hP : Pas Z t e) (h : tgB Z t k e f q = true) : ownB Z t q = false := by
  unfold tgB at h
  simp only [Bool.or_eq_true, Bool.and_eq_true, decide_eq_true_eq, beq_iff_eq] at h
  rcases h with (h | h) | h
  · have h2 := h.2
    unfold entB at h2
    split at h2
    · simp only [Bool.or_eq_true, decide_eq_true_eq] at h2
      rcases h2 with h2 | h2
      · exact own_zero (hP.emp h2)
      · exact own_one ht h2
    · simpa using h2
  · have h2 := h.2
    unfold ahB at h2
    simp only [Bool.or_eq_true, Bool.and_eq_true, beq_iff_eq] at h2
    rcases h2 with ⟨h3, h4 | h4⟩
    · exact own_zero (by rw [h4]; exact h3)
    · exact own_zero (by rw [h4.2]; exact h4.1.2)
  · have h2 := h.2
    unfold casB at h2
    simp only [List.any_eq_true, List.mem_range, Bool.and_eq_true, beq_iff_eq] at h2
    obtain ⟨i, hi, hcs, hqi⟩ := h2
    have hm : cTo i ∈ cBt i := by
      match i, hi with
      | 0, _ => decide
      | 1, _ => decide
      | 2, _ => decide
      | 3, _ => decide
    exact own_zero (by rw [hqi]; exact (csB_at hcs).2.2.1 _ hm)

theorem tg_ne {Z : List Int} {t : Nat} {k e : Int} {f q : Nat} (ht : t ≤ 1) (hP : Pas Z t e) (ho : ownB Z t f = true) (h : tgB Z t k e f q = true) : f ≠ q := fun e0 => by
  have := tg_no ht hP h
  rw [← e0, ho] at this
  cases this

/-- Whether a move leaves the mover's king attacked. -/
def exB (Z : List Int) (t : Nat) (e : Int) (K f q n : Nat) : Bool := decide (atk (mvZ Z t e f q n) (kgA K f q) (1 - t) ≠ [])
/-- Pieces that can leave their places. -/
def frB (Z : List Int) (t : Nat) (e : Int) (K f : Nat) : Bool := decide (atk Z K (1 - t) = []) && f != K && !(decide (f ∈ rch Z 5 K)) && (decide (e = -1) || !(decide (f ∈ rch Z (pc (1 - t) 1) e.toNat)))

theorem kgA_lt {K f q : Nat} (hK : K < 64) (hq : q < 64) : kgA K f q < 64 := by unfold kgA; split <;> omega

theorem ex_n {Z : List Int} {t : Nat} {k e : Int} {f q n K : Nat} (ht : t ≤ 1) (hS : Std Z) (hP : Pas Z t e) (hK : KgAt Z t K) (hf : f < 64) (hq : q < 64) (ho : ownB Z t f = true) (h : tgB Z t k e f q = true) (hn : n ∈ inB Z f q) : exB Z t e K f q n = exB Z t e K f q 0 := by
  by_cases h0 : n = 0
  · rw [h0]
  have hnp := (inB_lt hn).2.1 h0
  have hc : cI Z f q = none := by unfold cI; rw [if_neg (by omega)]
  have v1 := vl_own ho hn
  have v0 : 0 < pci t (vl Z t f 0) := by unfold vl; rw [if_pos rfl]; exact of_decide_eq_true ho
  have w1 := pci_pos v1
  have w0 := pci_pos v0
  unfold exB
  congr 2
  have key : atk (mvZ Z t e f q n) (kgA K f q) (1 - t) = atk (mvZ Z t e f q 0) (kgA K f q) (1 - t) := by
    refine atk_congr (kgA_lt hK.1 hq) (fun p hp => ?_) (fun p j hp hj => ?_)
    · cases htk : tkB Z e f q with
      | false =>
        rw [mvZ_plain hS.1 hf hq hc htk, mvZ_plain hS.1 hf hq hc htk]
        by_cases e1 : p = q
        · rw [if_pos e1, if_pos e1]; exact ⟨fun a => absurd a w1.1, fun a => absurd a w0.1⟩
        · rw [if_neg e1, if_neg e1]
      | true =>
        have hta := tk_at ht hS hP hf hq ho h htk
        rw [mvZ_take hS.1 hf hq hc hta.2.2.1 htk, mvZ_take hS.1 hf hq hc hta.2.2.1 htk]
        by_cases e2 : p = bk t q
        · rw [if_pos e2, if_pos e2]
        · rw [if_neg e2, if_neg e2]
          by_cases e1 : p = q
          · rw [if_pos e1, if_pos e1]; exact ⟨fun a => absurd a w1.1, fun a => absurd a w0.1⟩
          · rw [if_neg e1, if_neg e1]
    · cases htk : tkB Z e f q with
      | false =>
        rw [mvZ_plain hS.1 hf hq hc htk, mvZ_plain hS.1 hf hq hc htk]
        by_cases e1 : p = q
        · rw [if_pos e1, if_pos e1]; exact ⟨fun a => absurd a (w1.2 j), fun a => absurd a (w0.2 j)⟩
        · rw [if_neg e1, if_neg e1]
      | true =>
        have hta := tk_at ht hS hP hf hq ho h htk
        rw [mvZ_take hS.1 hf hq hc hta.2.2.1 htk, mvZ_take hS.1 hf hq hc hta.2.2.1 htk]
        by_cases e2 : p = bk t q
        · rw [if_pos e2, if_pos e2]
        · rw [if_neg e2, if_neg e2]
          by_cases e1 : p = q
          · rw [if_pos e1, if_pos e1]; exact ⟨fun a => absurd a (w1.2 j), fun a => absurd a (w0.2 j)⟩
          · rw [if_neg e1, if_neg e1]
  exact key

theorem fr_ok {Z : List Int} {t : Nat} {k e : Int} {f q n K : Nat} (ht : t ≤ 1) (hS : Std Z) (hP : Pas Z t e) (hK : KgAt Z t K) (hf : f < 64) (hq : q < 64) (ho : ownB Z t f = true) (h : tgB Z t k e f q = true) (hn : n ∈ inB Z f q) (hfr : frB Z t e K f = true) : exB Z t e K f q n = false := by
  unfold frB at hfr
  simp only [Bool.and_eq_true, decide_eq_true_eq, bne_iff_ne, ne_eq, Bool.not_eq_true', decide_eq_false_iff_not, Bool.or_eq_true] at hfr
  obtain ⟨⟨⟨h0, hfK⟩, hr⟩, hep⟩ := hfr
  have hzf := own_pc (of_decide_eq_true ho)
  have h6 : (zg Z f).natAbs ≠ 6 := fun e0 => hfK ((hK.2 f hf).1 (by rw [hzf, e0]))
  have hc : cI Z f q = none := by unfold cI; rw [if_neg h6]
  have htk : tkB Z e f q = false := by
    cases htk : tkB Z e f q with
    | false => rfl
    | true =>
      have hta := tk_at ht hS hP hf hq ho h htk
      rcases hep with hep | hep
      · have := hta.1; omega
      · have : e.toNat = q := by have := hta.1; omega
        rw [this] at hep
        exact absurd hta.2.2.2.2.2.2.1 hep
  have w1 := pci_pos (vl_own ho hn)
  have hfq := tg_ne ht hP ho h
  unfold exB kgA
  rw [if_neg hfK]
  refine decide_eq_false (fun hne => hne ?_)
  refine pin (Z := Z) (f := f) (q := q) hK.1 h0 hr ?_ ?_ ?_ ?_
  · rw [mvZ_plain hS.1 hf hq hc htk, if_pos rfl]; exact w1.1
  · intro j; rw [mvZ_plain hS.1 hf hq hc htk, if_pos rfl]; exact w1.2 j
  · rw [mvZ_plain hS.1 hf hq hc htk, if_neg hfq, if_pos rfl]
  · intro p _ e1 e2
    rw [mvZ_plain hS.1 hf hq hc htk, if_neg e1, if_neg e2]

/-! ## The lists -/
/-- The moves of one piece, whether the king is attacked behind them or not. -/
def mfL (Z : List Int) (t : Nat) (k e : Int) (f : Nat) : List (Nat × Nat × Nat) := ((List.range 64).filter (tgB Z t k e f)).flatMap fun q => (inB Z f q).map fun n => (f, q, n)
def keepB (Z : List Int) (t : Nat) (e : Int) (K : Nat) (m : Nat × Nat × Nat) : Bool := frB Z t e K m.1 || !(exB Z t e K m.1 m.2.1 m.2.2)
/-- All moves, as the program finds them. -/
def mvP (Z : List Int) (t : Nat) (k e : Int) (K : Nat) : List (Nat × Nat × Nat) := ((List.range 64).filter (ownB Z t)).flatMap fun f => (mfL Z t k e f).filter (keepB Z t e K)
/-- As the document does. -/
def lgR (Z : List Int) (t : Nat) (k e : Int) (K f q : Nat) : Bool := okR Z t k e f q && !(decide (atL (dnZ Z t e f q 0) (kgA K f q) (1 - t) ≠ []))
def mvR (Z : List Int) (t : Nat) (k e : Int) (K : Nat) : List (Nat × Nat × Nat) := ((List.range 64).filter (ownB Z t)).flatMap fun f => ((List.range 64).filter (lgR Z t k e K f)).flatMap fun q => (inB Z f q).map fun n => (f, q, n)

theorem flat_filter {α β : Type} (p : α → Bool) (g h : α → List β) : ∀ (L : List α), (∀ a ∈ L, (if p a = true then g a else []) = h a) → (L.filter p).flatMap g = L.flatMap h
  | [], _ => rfl
  | a :: r, H => by
    have h1 := H a (by simp)
    have h2 := flat_filter p g h r (fun b hb => H b (by simp [hb]))
    rw [List.filter_cons, List.flatMap_cons]
    cases hp : p a with
    | true => rw [if_pos rfl, List.flatMap_cons, h2, ← h1, hp]; rfl
    | false => rw [if_neg (by simp), h2, ← h1, hp]; rfl

theorem pz_of {Z : List Int} {t : Nat} {e : Int} {f q n : Nat} (hS : Std Z) (hn : n < 6) : Pz (mvZ Z t e f q n) := by
  have hb : ∀ p, -6 ≤ zg Z p ∧ zg Z p ≤ 6 := hS.pz.2
  have hset : ∀ (Y : List Int) (i : Nat) (v : Int), (∀ p, -6 ≤ zg Y p ∧ zg Y p ≤ 6) → -6 ≤ v → v ≤ 6 → ∀ p, -6 ≤ zg (Y.set i v) p ∧ zg (Y.set i v) p ≤ 6 := by
    intro Y i v hY h1 h2 p
    by_cases hi : i < Y.length
    · rw [zg_set hi]; split
      · exact ⟨h1, h2⟩
      · exact hY p
    · rw [List.set_eq_of_length_le (by omega)]; exact hY p
  have hv : -6 ≤ pci t n ∧ pci t n ≤ 6 := by unfold pci; split <;> omega
  have h1 : ∀ p, -6 ≤ zg (mv1 Z f q) p ∧ zg (mv1 Z f q) p ≤ 6 := by
    unfold mv1
    exact hset _ _ _ (hset _ _ _ hb (by omega) (by omega)) (hb f).1 (hb f).2
  have h2 : ∀ p, -6 ≤ zg (mv2 Z t f q n) p ∧ zg (mv2 Z t f q n) p ≤ 6 := by
    unfold mv2; split
    · exact h1
    · exact hset _ _ _ h1 hv.1 hv.2
  have h3 : ∀ p, -6 ≤ zg (mv3 Z t e f q n) p ∧ zg (mv3 Z t e f q n) p ≤ 6 := by
    unfold mv3; split
    · exact hset _ _ _ h2 (by omega) (by omega)
    · exact h2
  refine ⟨by rw [mvZ_len]; exact hS.1, ?_⟩
  unfold mvZ
  split
  · exact h3
  · exact hset _ _ _ (hset _ _ _ h3 (by omega) (by omega)) (hb _).1 (hb _).2

theorem atk_nil {Z : List Int} (hz : Pz Z) {K b : Nat} (hK : K < 64) (hb : b = 0 ∨ b = 1) : atk Z K b = [] ↔ atL Z K b = [] := by
  have := atk_len hz hK hb
  constructor
  · intro h; rw [h] at this; exact List.eq_nil_of_length_eq_zero this.symm
  · intro h; rw [h] at this; exact List.eq_nil_of_length_eq_zero this

/-- THE PROGRAM'S MOVES ARE THE DOCUMENT'S. -/
theorem mv_eq {Z : List Int} {t : Nat} {k e : Int} {K : Nat} (ht : t ≤ 1) (hS : Std Z) (hC : Cas Z k) (hP : Pas Z t e) (hK : KgAt Z t K) : mvP Z t k e K = mvR Z t k e K := by
  unfold mvP mvR
  refine fm_congr (fun f hf => ?_)
  simp only [List.mem_filter, List.mem_range] at hf
  unfold mfL
  rw [List.filter_flatMap]
  rw [flat_filter (tgB Z t k e f) _ (fun q => if lgR Z t k e K f q = true then (inB Z f q).map fun n => (f, q, n) else []) _ (fun q hq => ?_)]
  · symm
    exact flat_filter _ _ _ _ (fun _ _ => rfl)
  · have hq64 := List.mem_range.1 hq
    have hto := tg_ok ht hS hP (k := k) hf.1 hq64 hf.2
    unfold lgR
    rw [← hto]
    cases htg : tgB Z t k e f q with
    | false => simp
    | true =>
      rw [if_pos rfl, Bool.true_and, dn_eq hS hC hf.1 hq64 hf.2 htg]
      have hkey : ∀ n ∈ inB Z f q, keepB Z t e K (f, q, n) = !(decide (atL (mvZ Z t e f q 0) (kgA K f q) (1 - t) ≠ [])) := by
        intro n hn
        unfold keepB
        show (frB Z t e K f || !(exB Z t e K f q n)) = _
        have e1 : exB Z t e K f q n = decide (atL (mvZ Z t e f q 0) (kgA K f q) (1 - t) ≠ []) := by
          rw [ex_n ht hS hP hK hf.1 hq64 hf.2 htg hn]
          unfold exB
          have := atk_nil (pz_of (t := t) (e := e) (f := f) (q := q) (n := 0) hS (by omega)) (kgA_lt (f := f) hK.1 hq64) (show 1 - t = 0 ∨ 1 - t = 1 by omega)
          rw [decide_eq_decide]
          exact not_congr this
        rw [← e1]
        cases hfr : frB Z t e K f with
        | false => rfl
        | true => rw [fr_ok ht hS hP hK hf.1 hq64 hf.2 htg hn hfr]; rfl
      cases hx : decide (atL (mvZ Z t e f q 0) (kgA K f q) (1 - t) ≠ []) with
      | true =>
        rw [hx] at hkey
        simp only [Bool.not_true, Bool.false_eq_true, if_false]
        rw [List.filter_eq_nil_iff]
        intro m hm
        obtain ⟨n, hn, rfl⟩ := List.mem_map.1 hm
        rw [hkey n hn]; simp
      | false =>
        rw [hx] at hkey
        simp only [Bool.not_false, if_true]
        rw [List.filter_eq_self]
        intro m hm
        obtain ⟨n, hn, rfl⟩ := List.mem_map.1 hm
        exact hkey n hn

end Go.Proofs.YtdmlamnonbmboaaGreatDoor

namespace Go.Proofs.YtdmlamnonbmboaaGreatDoor
open Go.RowKit Go.Shelf

/-- The numbers of a state. -/
def stL (Z : List Int) (t k e h f : Int) : List Int := Z ++ [t, k, e, h, f]
/-- A state lies in a block. -/
def Sb (w : World) (b : Nat) (Z : List Int) (t k e h f : Int) : Prop := Z.length = 64 ∧ Vb w b 48 (ivs (stL Z t k e h f))

theorem Sb.at {w : World} {b : Nat} {Z : List Int} {t k e h f : Int} (hs : Sb w b Z t k e h f) {q : Nat} (hq : q < 64) : w.cell? ⟨b, q, none⟩ = some (.int .i64 (zg Z q)) := by
  refine hs.2.cell ?_
  have h1 : q < Z.length := by rw [hs.1]; exact hq
  unfold ivs stL
  rw [List.map_append, List.getElem?_append_left (by simpa using h1)]
  simp [zg, List.getD, h1]
theorem Sb.ends {w : World} {b : Nat} {Z : List Int} {t k e h f : Int} (hs : Sb w b Z t k e h f) : w.cell? ⟨b, 64, none⟩ = some (.int .i64 t) ∧ w.cell? ⟨b, 65, none⟩ = some (.int .i64 k) ∧ w.cell? ⟨b, 66, none⟩ = some (.int .i64 e) ∧ w.cell? ⟨b, 67, none⟩ = some (.int .i64 h) ∧ w.cell? ⟨b, 68, none⟩ = some (.int .i64 f) := by
  have hl := hs.1
  refine ⟨hs.2.cell ?_, hs.2.cell ?_, hs.2.cell ?_, hs.2.cell ?_, hs.2.cell ?_⟩ <;> (unfold ivs stL; rw [List.map_append, List.getElem?_append_right (by simp [hl]), List.length_map, hl]; rfl)
theorem Sb.keeps {X : Nat → Prop} {w w' : World} {b : Nat} {Z : List Int} {t k e h f : Int} (hs : Sb w b Z t k e h f) (hk : Keeps X w w') (hb : ¬ X b) : Sb w' b Z t k e h f := ⟨hs.1, hs.2.keeps hk hb⟩
theorem Sb.below {C : Nat} {w w' : World} {b : Nat} {Z : List Int} {t k e h f : Int} (hs : Sb w b Z t k e h f) (hk : Below C w w') (hb : b < C) : Sb w' b Z t k e h f := ⟨hs.1, hs.2.below hk hb⟩
theorem Sb.lt {w : World} {b : Nat} {Z : List Int} {t k e h f : Int} (hs : Sb w b Z t k e h f) : b < w.heap.size := hs.2.lt
theorem Sb.mono {w w' : World} {b : Nat} {Z : List Int} {t k e h f : Int} (hs : Sb w b Z t k e h f) (hk : Below w.heap.size w w') : Sb w' b Z t k e h f := hs.below hk hs.lt

theorem empty_any (b : Nat) (Z : List Int) (t k e h f : Int) (q : Nat) (hq : q < 64) (w : World) (hs : Sb w b Z t k e h f) :
    Calls Tryz.prog 53 #[.pointer (some ⟨b, 0, none⟩), .int .i64 (q : Nat)] w fun r w' => r = .returned (.bool (zg Z q == 0)) ∧ w' = w := by
  have c1 := hs.at hq
  generalize zg Z q = z at *
  clear hs
  go_enter Tryz.func53, Tryz.ntmps53
  go_wp2
  go_ret
  exact ⟨rfl, rfl⟩

theorem kindOn_any (b : Nat) (Z : List Int) (t k e h f : Int) (hz : Pz Z) (q : Nat) (hq : q < 64) (w : World) (hs : Sb w b Z t k e h f) :
    Calls Tryz.prog 52 #[.pointer (some ⟨b, 0, none⟩), .int .i64 (q : Nat)] w fun r w' => r = .returned (.int .i64 ((zg Z q).natAbs : Nat)) ∧ w' = w := by
  have c1 := hs.at hq
  have hb := hz.2 q
  have HK := hide (kindOf_any (zg Z q) hb.1 hb.2)
  generalize (zg Z q).natAbs = x at *
  generalize zg Z q = z at *
  clear hs
  go_enter Tryz.func52, Tryz.ntmps52
  go_wp2_with (go_at_call 74; refine (HK.out _).mono ?_; rintro e w5 ⟨rfl, hw⟩; subst w5)
  go_ret
  exact ⟨rfl, rfl⟩

theorem holds_any (b : Nat) (Z : List Int) (t k e h f : Int) (hz : Pz Z) (q s : Nat) (hq : q < 64) (w : World) (hs : Sb w b Z t k e h f) :
    Calls Tryz.prog 88 #[.pointer (some ⟨b, 0, none⟩), .int .i64 (q : Nat), .int .i64 (s : Nat)] w fun r w' => r = .returned (.bool (ownB Z s q)) ∧ w' = w := by
  have c1 := hs.at hq
  have hb := hz.2 q
  have HK := hide (of_any s (zg Z q) (by omega) (by omega))
  unfold ownB
  generalize pci s (zg Z q) = x at *
  generalize zg Z q = z at *
  clear hs
  go_enter Tryz.func88, Tryz.ntmps88
  go_wp2_with (go_at_call 47; refine (HK.out _).mono ?_; rintro e w5 ⟨rfl, hw⟩; subst w5)
  go_ret
  exact ⟨rfl, rfl⟩

theorem Sb.rd {w : World} {b : Nat} {Z : List Int} {t k e h f : Int} (hs : Sb w b Z t k e h f) : Rd w (some ⟨b, 0, none⟩) 64 64 Z :=
  ⟨hs.1, Nat.le_refl _, by unfold maxLen; omega, (fun e => by cases e), fun _ => ⟨b, 0, rfl, fun i hi => by rw [Nat.zero_add]; exact hs.at hi⟩⟩

set_option maxRecDepth 100000 in
set_option maxHeartbeats 2000000 in
theorem attackedS_any (b : Nat) (Z : List Int) (t : Nat) (k e h f : Int) (ht : t ≤ 1) (q : Nat) (hq : q < 64) (w : World) (hs : Sb w b Z (t : Nat) k e h f) (hT : TabS w) :
    Calls Tryz.prog 83 #[.pointer (some ⟨b, 0, none⟩), .int .i64 (q : Nat)] w fun r w' => r = .returned (.bool (decide (atk Z q (1 - t) ≠ []))) ∧ Below w.heap.size w w' := by
  have HSB : Hid (∀ W, Below w.heap.size w W → Sb W b Z (t : Nat) k e h f) := hide (fun W hb => hs.mono hb)
  have HOT := hide (other_any t ht)
  have HAT : Hid (∀ W, Below w.heap.size w W → Calls Tryz.prog 78 #[.slice (some ⟨b, 0, none⟩) 64 64, .int .i64 (q : Nat), .int .i64 ((1 - t : Nat) : Int)] W fun r w' => r = .returned (.bool (decide (atk Z q (1 - t) ≠ []))) ∧ Below W.heap.size W w') := hide (fun W hb => attacked_any _ 64 Z q (1 - t) hq W (hs.mono hb).rd (hT.mono hb))
  generalize decide (atk Z q (1 - t) ≠ []) = rr at *
  obtain ⟨os, hos⟩ : ∃ os, 1 - t = os := ⟨_, rfl⟩
  rw [hos] at HOT HAT
  clear hs hT hos ht
  go_enter Tryz.func83, Tryz.ntmps83
  go_upto_region 1 with fail
  refine wp_region_held (S := fun W5 => Below w.heap.size w W5) (by kernel_rfl) ?_
  change wpAnyH _ _ _ _ _ _ _ _ (World.drew _)
  have SW : Below w.heap.size w (w.drew) := (Below.refl _ _).drew
  refine wpAnyH_take (i := 0) (v := .pointer (some ⟨b, 0, none⟩)) rfl (by kernel_rfl) (by kernel_rfl) (by kernel_rfl) (fun _ _ _ h => h) (Or.inl ⟨by rfl, ?_⟩) SW ?_
  · intro W5 hW5
    go_simp <;> first | done | rfl | (rw [IntKind.wrap_i64]; omega) | omega
  go_simp
  refine wpAnyH_take (i := 1) (v := .pointer (some ⟨b, 0, none⟩)) rfl (by kernel_rfl) (by kernel_rfl) (by kernel_rfl) (fun _ _ _ h => h) (Or.inl ⟨by rfl, ?_⟩) SW ?_
  · intro W5 hW5
    go_simp <;> first | done | rfl | (rw [IntKind.wrap_i64]; omega) | omega
  go_simp
  refine wpAnyH_take (i := 2) (v := .pointer (some ⟨b, 0, none⟩)) rfl (by kernel_rfl) (by kernel_rfl) (by kernel_rfl) (fun _ _ _ h => h) (Or.inl ⟨by rfl, ?_⟩) SW ?_
  · intro W5 hW5
    go_simp <;> first | done | rfl | (rw [IntKind.wrap_i64]; omega) | omega
  go_simp
  refine wpAnyH_take (i := 3) (v := .slice (some ⟨b, 0, none⟩) 64 64) rfl (by kernel_rfl) (by kernel_rfl) (by kernel_rfl) (fun _ _ _ h => h) (Or.inl ⟨by rfl, ?_⟩) SW ?_
  · intro W5 hW5
    go_simp <;> first | done | rfl | (rw [IntKind.wrap_i64]; omega) | omega
  go_simp
  refine wpAnyH_take (i := 4) (v := .int .i64 (q : Nat)) rfl (by kernel_rfl) (by kernel_rfl) (by kernel_rfl) (fun _ _ _ h => h) (Or.inl ⟨by rfl, ?_⟩) SW ?_
  · intro W5 hW5
    go_simp <;> first | done | rfl | (rw [IntKind.wrap_i64]; omega) | omega
  go_simp
  refine wpAnyH_take (i := 5) (v := .pointer (some ⟨b, 0, none⟩)) rfl (by kernel_rfl) (by kernel_rfl) (by kernel_rfl) (fun _ _ _ h => h) (Or.inl ⟨by rfl, ?_⟩) SW ?_
  · intro W5 hW5
    go_simp <;> first | done | rfl | (rw [IntKind.wrap_i64]; omega) | omega
  go_simp
  refine wpAnyH_take (i := 6) (v := .pointer (some ⟨b, 0, none⟩)) rfl (by kernel_rfl) (by kernel_rfl) (by kernel_rfl) (fun _ _ _ h => h) (Or.inl ⟨by rfl, ?_⟩) SW ?_
  · intro W5 hW5
    go_simp <;> first | done | rfl | (rw [IntKind.wrap_i64]; omega) | omega
  go_simp
  refine wpAnyH_take (i := 7) (v := .pointer (some ⟨b, 64, none⟩)) rfl (by kernel_rfl) (by kernel_rfl) (by kernel_rfl) (fun _ _ _ h => h) (Or.inl ⟨by rfl, ?_⟩) SW ?_
  · intro W5 hW5
    go_simp <;> first | done | rfl | (rw [IntKind.wrap_i64]; omega) | omega
  go_simp
  refine wpAnyH_take (i := 8) (v := .int .i64 (t : Nat)) rfl (by kernel_rfl) (by kernel_rfl) (by kernel_rfl) (fun _ _ _ h => h) (Or.inl ⟨by rfl, ?_⟩) SW ?_
  · intro W5 hW5
    have x64 := (HSB.out W5 hW5).ends.1
    go_simp <;> first | done | rfl | (rw [IntKind.wrap_i64]; omega) | omega
  go_simp
  refine wpAnyH_ready (rs := [9]) (by kernel_rfl) (by simp) ?_
  refine AllReadyH.cons rfl (fun K1 hK1 => ?_) AllReadyH.nil
  go_simp
  refine (HOT.out _).mono ?_
  rintro r w5 ⟨rfl, hw⟩
  subst w5
  refine hK1.out _ _ SW (fun SW => ?_)
  clear hK1 K1
  go_simp
  refine wpAnyH_ready (rs := [10]) (by kernel_rfl) (by simp) ?_
  refine AllReadyH.cons rfl (fun K1 hK1 => ?_) AllReadyH.nil
  go_simp
  refine (HAT.out _ SW).mono ?_
  rintro r w7 ⟨rfl, hb5⟩
  have B5 := SW.trans (hb5.mono SW.size)
  refine hK1.out _ _ B5 (fun SW => ?_)
  clear hK1 K1 hb5 B5
  go_simp
  refine wpAnyH_take (i := 11) (v := .bool rr) rfl (by kernel_rfl) (by kernel_rfl) (by kernel_rfl) (fun _ _ _ h => h) (Or.inl ⟨by rfl, ?_⟩) SW ?_
  · intro W5 hW5
    go_simp <;> first | done | rfl | (rw [IntKind.wrap_i64]; omega) | omega
  go_simp
  refine wpAnyH_done (by kernel_rfl) ?_ _
  have HB := hide SW
  clear SW
  go_wp2_with fail
  go_ret
  exact ⟨rfl, HB.out⟩

end Go.Proofs.YtdmlamnonbmboaaGreatDoor

namespace Go.Proofs.YtdmlamnonbmboaaGreatDoor
open Go.RowKit Go.Shelf

/-- A set of places, a bit each. -/
def msk (p : Nat → Bool) : Nat → Nat
  | 0 => 0
  | n + 1 => msk p n ||| (if p n = true then 2 ^ n else 0)
theorem msk_bit (p : Nat → Bool) : ∀ n j, (msk p n).testBit j = (decide (j < n) && p j)
  | 0, j => by simp [msk]
  | n + 1, j => by
    rw [msk, Nat.testBit_or, msk_bit p n j]
    by_cases hp : p n = true
    · rw [if_pos hp, Nat.testBit_two_pow]
      by_cases e : n = j
      · subst e; simp [hp]
      · have : (j < n + 1) ↔ (j < n) := by omega
        simp [e, this]
    · rw [if_neg hp]
      by_cases e : n = j
      · subst e
        have : p n = false := by simpa using hp
        simp [this]
      · have : (j < n + 1) ↔ (j < n) := by omega
        simp [this]
theorem msk_lt (p : Nat → Bool) (n : Nat) (hn : n ≤ 64) : msk p n < 2 ^ 64 := by
  refine Nat.lt_pow_two_of_testBit _ (fun i hi => ?_)
  rw [msk_bit]
  simp
  omega
theorem bln_msk (p : Nat → Bool) : bln (msk p 64) 64 = (List.range 64).filter p := by
  unfold bln
  refine List.filter_congr (fun j hj => ?_)
  rw [msk_bit, decide_eq_true (List.mem_range.1 hj)]; rfl
theorem msk_ext {x : Nat} {p : Nat → Bool} (hx : x < 2 ^ 64) (h : ∀ j, j < 64 → x.testBit j = p j) : x = msk p 64 := by
  refine Nat.eq_of_testBit_eq (fun j => ?_)
  rw [msk_bit]
  by_cases hj : j < 64
  · rw [h j hj, decide_eq_true hj]; rfl
  · rw [decide_eq_false hj, Bool.false_and]
    exact Nat.testBit_lt_two_pow (Nat.lt_of_lt_of_le hx (Nat.pow_le_pow_right (by decide) (by omega)))
theorem pow_lt64 {q : Nat} (hq : q < 64) : 2 ^ q < 18446744073709551616 := by
  have := Nat.pow_lt_pow_right (a := 2) (by omega) hq
  rwa [p64] at this
theorem msk_lt' (p : Nat → Bool) (n : Nat) (hn : n ≤ 64) : msk p n < 18446744073709551616 := by
  have := msk_lt p n hn
  rwa [p64] at this

set_option maxRecDepth 100000 in
set_option maxHeartbeats 2000000 in
theorem kingS_any (b : Nat) (Z : List Int) (t : Nat) (k e h f : Int) (K : Nat) (hK : Fst Z (pc t 6) K) (w : World) (hs : Sb w b Z (t : Nat) k e h f) :
    Calls Tryz.prog 84 #[.pointer (some ⟨b, 0, none⟩)] w fun r w' => r = .returned (.int .i64 (K : Nat)) ∧ Below w.heap.size w w' := by
  have HSB : Hid (∀ W, Below w.heap.size w W → Sb W b Z (t : Nat) k e h f) := hide (fun W hb => hs.mono hb)
  have HPC := hide (pieceOf_any t 6 (by omega))
  have HIX : Hid (∀ W, Below w.heap.size w W → Calls Tryz.prog 77 #[.slice (some ⟨b, 0, none⟩) 64 64, .int .i64 (pc t 6)] W fun r w' => r = .returned (.int .i64 (K : Nat)) ∧ w' = W) := hide (fun W hb => index_king _ 64 Z (pc t 6) K hK W (hs.mono hb).rd)
  generalize pc t 6 = P6 at *
  clear hs
  go_enter Tryz.func84, Tryz.ntmps84
  go_upto_region 1 with fail
  refine wp_region_held (S := fun W5 => Below w.heap.size w W5) (by kernel_rfl) ?_
  change wpAnyH _ _ _ _ _ _ _ _ (World.drew _)
  have SW : Below w.heap.size w (w.drew) := (Below.refl _ _).drew
  refine wpAnyH_take (i := 0) (v := .pointer (some ⟨b, 0, none⟩)) rfl (by kernel_rfl) (by kernel_rfl) (by kernel_rfl) (fun _ _ _ h => h) (Or.inl ⟨by rfl, ?_⟩) SW ?_
  · intro W5 hW5
    go_simp <;> first | done | rfl | (rw [IntKind.wrap_i64]; omega) | omega
  go_simp
  refine wpAnyH_take (i := 1) (v := .pointer (some ⟨b, 0, none⟩)) rfl (by kernel_rfl) (by kernel_rfl) (by kernel_rfl) (fun _ _ _ h => h) (Or.inl ⟨by rfl, ?_⟩) SW ?_
  · intro W5 hW5
    go_simp <;> first | done | rfl | (rw [IntKind.wrap_i64]; omega) | omega
  go_simp
  refine wpAnyH_take (i := 2) (v := .pointer (some ⟨b, 0, none⟩)) rfl (by kernel_rfl) (by kernel_rfl) (by kernel_rfl) (fun _ _ _ h => h) (Or.inl ⟨by rfl, ?_⟩) SW ?_
  · intro W5 hW5
    go_simp <;> first | done | rfl | (rw [IntKind.wrap_i64]; omega) | omega
  go_simp
  refine wpAnyH_take (i := 3) (v := .slice (some ⟨b, 0, none⟩) 64 64) rfl (by kernel_rfl) (by kernel_rfl) (by kernel_rfl) (fun _ _ _ h => h) (Or.inl ⟨by rfl, ?_⟩) SW ?_
  · intro W5 hW5
    go_simp <;> first | done | rfl | (rw [IntKind.wrap_i64]; omega) | omega
  go_simp
  refine wpAnyH_take (i := 4) (v := .pointer (some ⟨b, 0, none⟩)) rfl (by kernel_rfl) (by kernel_rfl) (by kernel_rfl) (fun _ _ _ h => h) (Or.inl ⟨by rfl, ?_⟩) SW ?_
  · intro W5 hW5
    go_simp <;> first | done | rfl | (rw [IntKind.wrap_i64]; omega) | omega
  go_simp
  refine wpAnyH_take (i := 5) (v := .pointer (some ⟨b, 0, none⟩)) rfl (by kernel_rfl) (by kernel_rfl) (by kernel_rfl) (fun _ _ _ h => h) (Or.inl ⟨by rfl, ?_⟩) SW ?_
  · intro W5 hW5
    go_simp <;> first | done | rfl | (rw [IntKind.wrap_i64]; omega) | omega
  go_simp
  refine wpAnyH_take (i := 6) (v := .pointer (some ⟨b, 64, none⟩)) rfl (by kernel_rfl) (by kernel_rfl) (by kernel_rfl) (fun _ _ _ h => h) (Or.inl ⟨by rfl, ?_⟩) SW ?_
  · intro W5 hW5
    go_simp <;> first | done | rfl | (rw [IntKind.wrap_i64]; omega) | omega
  go_simp
  refine wpAnyH_take (i := 7) (v := .int .i64 (t : Nat)) rfl (by kernel_rfl) (by kernel_rfl) (by kernel_rfl) (fun _ _ _ h => h) (Or.inl ⟨by rfl, ?_⟩) SW ?_
  · intro W5 hW5
    have x64 := (HSB.out W5 hW5).ends.1
    go_simp <;> first | done | rfl | (rw [IntKind.wrap_i64]; omega) | omega
  go_simp
  refine wpAnyH_ready (rs := [8]) (by kernel_rfl) (by simp) ?_
  refine AllReadyH.cons rfl (fun K1 hK1 => ?_) AllReadyH.nil
  go_simp
  refine (HPC.out _).mono ?_
  rintro r w5 ⟨rfl, hw⟩
  subst w5
  refine hK1.out _ _ SW (fun SW => ?_)
  clear hK1 K1
  go_simp
  refine wpAnyH_ready (rs := [9]) (by kernel_rfl) (by simp) ?_
  refine AllReadyH.cons rfl (fun K1 hK1 => ?_) AllReadyH.nil
  go_simp
  refine (HIX.out _ SW).mono ?_
  rintro r w5 ⟨rfl, hw⟩
  subst w5
  refine hK1.out _ _ SW (fun SW => ?_)
  clear hK1 K1
  go_simp
  refine wpAnyH_take (i := 10) (v := .int .i64 (K : Nat)) rfl (by kernel_rfl) (by kernel_rfl) (by kernel_rfl) (fun _ _ _ h => h) (Or.inl ⟨by rfl, ?_⟩) SW ?_
  · intro W5 hW5
    go_simp <;> first | done | rfl | (rw [IntKind.wrap_i64]; omega) | omega
  go_simp
  refine wpAnyH_done (by kernel_rfl) ?_ _
  have HB := hide SW
  clear SW
  go_wp2_with fail
  go_ret
  exact ⟨rfl, HB.out⟩

theorem inCheckS_any (b : Nat) (Z : List Int) (t : Nat) (k e h f : Int) (ht : t ≤ 1) (K : Nat) (hK : Fst Z (pc t 6) K) (w : World) (hs : Sb w b Z (t : Nat) k e h f) (hT : TabS w) :
    Calls Tryz.prog 56 #[.pointer (some ⟨b, 0, none⟩)] w fun r w' => r = .returned (.bool (decide (atk Z K (1 - t) ≠ []))) ∧ Below w.heap.size w w' := by
  have HKI := hide (kingS_any b Z t k e h f K hK w hs)
  have HAT : Hid (∀ W, Below w.heap.size w W → Calls Tryz.prog 83 #[.pointer (some ⟨b, 0, none⟩), .int .i64 (K : Nat)] W fun r w' => r = .returned (.bool (decide (atk Z K (1 - t) ≠ []))) ∧ Below W.heap.size W w') := hide (fun W hb => attackedS_any b Z t k e h f ht K hK.1 W (hs.mono hb) (hT.mono hb))
  generalize decide (atk Z K (1 - t) ≠ []) = rr at *
  clear hs hT ht hK
  go_enter Tryz.func56, Tryz.ntmps56
  go_wp2_with fail
  refine HKI.out.mono ?_
  rintro r w1 ⟨rfl, hb1⟩
  have HB1 := hide hb1
  clear hb1
  go_wp2_with fail
  refine (HAT.out _ HB1.out).mono ?_
  rintro r w2 ⟨rfl, hb2⟩
  have HB2 := hide (HB1.out.trans (hb2.mono HB1.out.size))
  clear hb2
  go_wp2_with fail
  go_ret
  exact ⟨rfl, HB2.out⟩

set_option maxRecDepth 100000 in
set_option maxHeartbeats 2000000 in
theorem own_any (b : Nat) (Z : List Int) (t : Nat) (k e h f : Int) (hz : Pz Z) (w : World) (hs : Sb w b Z (t : Nat) k e h f) :
    Calls Tryz.prog 62 #[.pointer (some ⟨b, 0, none⟩)] w fun r w' => r = .returned (.int .u64 (msk (ownB Z t) 64 : Nat)) ∧ w' = w := by
  have HHO := hide (fun q hq => holds_any b Z t k e h f hz q t hq w hs)
  have HJ := hide just_any
  have x64 := hs.ends.1
  have HSU : Hid (∀ i, msk (ownB Z t) (i + 1) = msk (ownB Z t) i ||| (if ownB Z t i = true then 2 ^ i else 0)) := hide (fun i => rfl)
  have HML := hide (msk_lt' (ownB Z t))
  have HM0 : Hid (msk (ownB Z t) 0 = 0) := hide rfl
  clear hs hz
  go_enter Tryz.func62, Tryz.ntmps62
  go_wp2_with fail
  go_loopw [3, 5] (fun u v wr => ∃ i : Nat, v = .int .i64 i ∧ i ≤ 64 ∧ u = .int .u64 (msk (ownB Z t) i : Nat) ∧ w = wr) (fun _ v _ => 64 - (intOf v).toNat)
  case atStart => exact ⟨0, rfl, by omega, by rw [HM0.out]; rfl, rfl⟩
  case round =>
    obtain ⟨i, rfl, hi, rfl, rfl⟩ := hrel
    by_cases hlt : i < 64
    · have hlt' : (i : Int) < 64 := by omega
      have HH := hide (HHO.out i hlt)
      have HSI := hide (HSU.out i)
      have hm := HML.out i (by omega)
      have hp := pow_lt64 hlt
      have HJI := hide (HJ.out i hlt)
      have hor : bits BinOp.or .u64 ((msk (ownB Z t) i : Nat) : Int) ((2 ^ i : Nat) : Int) = ((msk (ownB Z t) i ||| 2 ^ i : Nat) : Int) := u64_or_nat _ _ hm hp
      cases ho : ownB Z t i with
      | false =>
        rw [ho] at HH HSI
        have HE : Hid (msk (ownB Z t) (i + 1) = msk (ownB Z t) i) := hide (by rw [HSI.out, if_neg (by simp), Nat.or_zero])
        generalize msk (ownB Z t) i = m at *
        clear ho HSI
        go_wp2_with (go_at_call 88; refine (HH.out).mono ?_; rintro e w5 ⟨rfl, hw⟩; subst w5)
        exact ⟨⟨i + 1, by go_num, by omega, by rw [HE.out], by first | rfl | trivial⟩, by simp [intOf]; omega⟩
      | true =>
        rw [ho] at HH HSI
        have HE : Hid (msk (ownB Z t) (i + 1) = msk (ownB Z t) i ||| 2 ^ i) := hide (by rw [HSI.out, if_pos rfl])
        generalize msk (ownB Z t) i = m at *
        generalize 2 ^ i = pi at *
        clear ho HSI
        go_wp2_with (first | (go_at_call 88; refine (HH.out).mono ?_; rintro e w5 ⟨rfl, hw⟩; subst w5) | (go_at_call 65; refine (HJI.out _).mono ?_; rintro e w5 ⟨rfl, hw⟩; subst w5))
        exact ⟨⟨i + 1, by go_num, by omega, by rw [HE.out], by first | rfl | trivial⟩, by simp [intOf]; omega⟩
    · obtain rfl : i = 64 := by omega
      go_wp2_with fail
      go_ret
      exact ⟨rfl, rfl⟩

theorem onEdge_any (p : Int) (w : World) : Calls Tryz.prog 93 #[.int .i64 p] w fun r w' => r = .returned (.bool (edge p)) ∧ w' = w := by
  unfold edge
  by_cases h1 : p < 8
  · rw [decide_eq_true h1, Bool.true_or]
    go_enter Tryz.func93, Tryz.ntmps93
    go_wp2
    go_ret
    exact ⟨rfl, rfl⟩
  · rw [decide_eq_false h1, Bool.false_or]
    go_enter Tryz.func93, Tryz.ntmps93
    go_wp2
    go_ret
    exact ⟨by first | rfl | simp, rfl⟩

set_option maxRecDepth 100000 in
set_option maxHeartbeats 2000000 in
theorem mayEnter_any (b : Nat) (Z : List Int) (t : Nat) (k e h f : Int) (ht : t ≤ 1) (hz : Pz Z) (x q : Nat) (hx : x < 64) (hq : q < 64) (w : World) (hs : Sb w b Z (t : Nat) k e h f) :
    Calls Tryz.prog 115 #[.pointer (some ⟨b, 0, none⟩), .int .i64 (x : Nat), .int .i64 (q : Nat)] w fun r w' => r = .returned (.bool (entB Z t e x q)) ∧ w' = w := by
  have HK := hide (kindOn_any b Z t k e h f hz x hx w hs)
  have HO := hide (other_any t ht)
  have H1 := hide (holds_any b Z t k e h f hz q (1 - t) hq w hs)
  have H2 := hide (holds_any b Z t k e h f hz q t hq w hs)
  obtain ⟨x64, x65, x66, -, -⟩ := hs.ends
  unfold entB
  generalize (zg Z x).natAbs = n at *
  generalize ownB Z (1 - t) q = o1 at *
  generalize ownB Z t q = o2 at *
  obtain ⟨os, hos⟩ : ∃ os, 1 - t = os := ⟨_, rfl⟩
  rw [hos] at HO H1
  clear hs hz hos
  by_cases hn : n = 1
  · subst hn
    rw [if_pos rfl]
    by_cases hqe : (q : Int) = e
    · have b1 : ((q : Int) == e) = true := by simp [hqe]
      rw [decide_eq_true hqe, Bool.true_or]
      subst hqe
      go_enter Tryz.func115, Tryz.ntmps115
      go_wp2_with (go_at_call 52; refine (HK.out).mono ?_; rintro e w5 ⟨rfl, hw⟩; subst w5)
      go_ret
      exact ⟨rfl, rfl⟩
    · have b1 : ((q : Int) == e) = false := by simp [hqe]
      rw [decide_eq_false hqe, Bool.false_or]
      go_enter Tryz.func115, Tryz.ntmps115
      go_wp2_with (first | (go_at_call 52; refine (HK.out).mono ?_; rintro e w5 ⟨rfl, hw⟩; subst w5) | (go_at_call 43; refine (HO.out _).mono ?_; rintro e w5 ⟨rfl, hw⟩; subst w5) | (go_at_call 88; refine (H1.out).mono ?_; rintro e w5 ⟨rfl, hw⟩; subst w5))
      go_ret
      exact ⟨rfl, rfl⟩
  · have b1 : ((n : Int) == 1) = false := by simp; omega
    rw [if_neg hn]
    go_enter Tryz.func115, Tryz.ntmps115
    go_wp2_with (first | (go_at_call 52; refine (HK.out).mono ?_; rintro e w5 ⟨rfl, hw⟩; subst w5) | (go_at_call 88; refine (H2.out).mono ?_; rintro e w5 ⟨rfl, hw⟩; subst w5))
    go_ret
    exact ⟨rfl, rfl⟩

end Go.Proofs.YtdmlamnonbmboaaGreatDoor
