/-
  Chess: what the document's list of moves asks at each place: mathematics. No conditions beyond those that each theorem bears.
  Chess: a position of the call's own, written to. No conditions beyond those that each theorem bears.
-/
import Derived.Test.YtdmlamnonbmboaaDoorQ40
import Derived.Test.YtdmlamnonbmboaaDoorQ18
import Derived.Test.YtdmlamnonbmboaaDoorQ32
import Derived.Test.YtdmlamnonbmboaaDoorQ37
namespace Go.Proofs.YtdmlamnonbmboaaDoor
open Go.RowKit Go.Shelf

/-- One's own king behind a move whose piece is left as it is. -/
theorem kg_zero {Z : List Int} {t : Nat} {k e : Int} {f q K : Nat} (ht : t ≤ 1) (hS : Std Z) (hC : Cas Z k) (hP : Pas Z t e) (hK : KgAt Z t K) (hf : f < 64) (hq : q < 64) (ho : ownB Z t f = true) (h : tgB Z t k e f q = true) : KgAt (mvZ Z t e f q 0) t (kgA K f q) := by
  by_cases hb : (zg Z f).natAbs = 1 ∧ edge (q : Int) = true
  · have hn : 2 ∈ inB Z f q := by unfold inB; rw [if_pos hb]; simp
    have h2 := king_after ht hS hC hP hK hf hq ho h hn
    refine ⟨h2.1, fun p hp => ?_⟩
    rw [← h2.2 p hp]
    have h1 := hb.1
    have hc : cI Z f q = none := by unfold cI; rw [if_neg (by omega)]
    have v2 : vl Z t f 2 ≠ pc t 6 := by unfold vl pci pc; rw [if_neg (by omega)]; split <;> omega
    have v0 : vl Z t f 0 ≠ pc t 6 := by unfold vl pc; rw [if_pos rfl]; split <;> omega
    cases htk : tkB Z e f q with
    | false =>
      rw [mvZ_plain hS.1 hf hq hc htk, mvZ_plain hS.1 hf hq hc htk]
      by_cases e1 : p = q
      · rw [if_pos e1, if_pos e1]; exact ⟨fun a => absurd a v0, fun a => absurd a v2⟩
      · rw [if_neg e1, if_neg e1]
    | true =>
      have hta := tk_at ht hS hP hf hq ho h htk
      rw [mvZ_take hS.1 hf hq hc hta.2.2.1 htk, mvZ_take hS.1 hf hq hc hta.2.2.1 htk]
      by_cases e2 : p = bk t q
      · rw [if_pos e2, if_pos e2]
      · rw [if_neg e2, if_neg e2]
        by_cases e1 : p = q
        · rw [if_pos e1, if_pos e1]; exact ⟨fun a => absurd a v0, fun a => absurd a v2⟩
        · rw [if_neg e1, if_neg e1]
  · have hn : 0 ∈ inB Z f q := by unfold inB; rw [if_neg hb]; simp
    exact king_after ht hS hC hP hK hf hq ho h hn

theorem dec_nil {α : Type} {A B : List α} [DecidableEq α] (h : A = [] ↔ B = []) : decide (A = []) = decide (B = []) := by
  rw [decide_eq_decide]; exact h
/-- The document's castlings are the program's. -/
theorem ct_cs {Z : List Int} {t : Nat} (ht : t ≤ 1) (hz : Pz Z) (k : Int) {i : Nat} (hi : i < 4) : ctB Z t k i = csB Z t k i := by
  have hp := cas_pl hi
  have hb : 1 - t = 0 ∨ 1 - t = 1 := by omega
  unfold ctB csB
  rw [dec_nil (atk_nil hz (K := kgP i) hp.2.2.1 hb), dec_nil (atk_nil hz (K := cOv i) hp.2.1 hb), dec_nil (atk_nil hz (K := cTo i) hp.2.2.2.1 hb)]
  cases bitB k i <;> cases (sdP i == t) <;> rfl
/-- Whether one of the first castlings leads there. -/
def caN (Z : List Int) (t : Nat) (k : Int) (q : Nat) : Nat → Bool
  | 0 => false
  | n + 1 => caN Z t k q n || (ctI Z t k n == (q : Int))
theorem caN_four {Z : List Int} {t : Nat} (ht : t ≤ 1) (hz : Pz Z) (k : Int) (q : Nat) : caN Z t k q 4 = casB Z t k q := by
  have h1 : ∀ i, i < 4 → (ctI Z t k i == (q : Int)) = (csB Z t k i && q == cTo i) := by
    intro i hi
    rw [← ct_cs ht hz k hi]
    unfold ctI
    cases ctB Z t k i with
    | true =>
      rw [if_pos rfl, Bool.true_and, Bool.eq_iff_iff, beq_iff_eq, beq_iff_eq]; omega
    | false =>
      rw [if_neg (by simp), Bool.false_and, beq_eq_false_iff_ne]; omega
  unfold casB
  show ((((false || (ctI Z t k 0 == (q : Int))) || (ctI Z t k 1 == (q : Int))) || (ctI Z t k 2 == (q : Int))) || (ctI Z t k 3 == (q : Int))) = _
  rw [h1 0 (by omega), h1 1 (by omega), h1 2 (by omega), h1 3 (by omega)]
  simp [List.range, List.range.loop, List.any, Bool.or_assoc]
/-- What the document asks of a place, so many castlings looked at. -/
def okN (Z : List Int) (t : Nat) (k e : Int) (f q n : Nat) : Bool := goR Z t e f q || ((zg Z f).natAbs == 6 && caN Z t k q n)
theorem okN_zero (Z : List Int) (t : Nat) (k e : Int) (f q : Nat) : okN Z t k e f q 0 = goR Z t e f q := by
  unfold okN caN; rw [Bool.and_false, Bool.or_false]
theorem okN_succ {Z : List Int} {t : Nat} {k e : Int} {f q n : Nat} (h6 : (zg Z f).natAbs = 6) : okN Z t k e f q (n + 1) = (okN Z t k e f q n || (ctI Z t k n == (q : Int))) := by
  unfold okN; rw [caN, h6]; simp [Bool.or_assoc]
theorem okN_four {Z : List Int} {t : Nat} (ht : t ≤ 1) (hz : Pz Z) (k e : Int) (f q : Nat) : okN Z t k e f q 4 = okR Z t k e f q := by
  unfold okN okR; rw [caN_four ht hz]
theorem okN_no {Z : List Int} {t : Nat} {k e : Int} {f q : Nat} (h6 : (zg Z f).natAbs ≠ 6) : okR Z t k e f q = goR Z t e f q := by
  unfold okR; rw [beq_eq_false_iff_ne.2 h6, Bool.false_and, Bool.or_false]

/-! ## The list, place by place -/
def rowQ (Z : List Int) (t : Nat) (k e : Int) (K f q : Nat) : List (Nat × Nat × Nat) := if lgR Z t k e K f q = true then (inB Z f q).map fun n => (f, q, n) else []
def rowF (Z : List Int) (t : Nat) (k e : Int) (K f n : Nat) : List (Nat × Nat × Nat) := (List.range n).flatMap (rowQ Z t k e K f)
def rowA (Z : List Int) (t : Nat) (k e : Int) (K n : Nat) : List (Nat × Nat × Nat) := (List.range n).flatMap fun f => if ownB Z t f = true then rowF Z t k e K f 64 else []
theorem rowF_zero (Z : List Int) (t : Nat) (k e : Int) (K f : Nat) : rowF Z t k e K f 0 = [] := rfl
theorem rowF_succ (Z : List Int) (t : Nat) (k e : Int) (K f n : Nat) : rowF Z t k e K f (n + 1) = rowF Z t k e K f n ++ rowQ Z t k e K f n := by
  unfold rowF; rw [List.range_succ, List.flatMap_append]; simp
theorem rowA_zero (Z : List Int) (t : Nat) (k e : Int) (K : Nat) : rowA Z t k e K 0 = [] := rfl
theorem rowA_succ (Z : List Int) (t : Nat) (k e : Int) (K n : Nat) : rowA Z t k e K (n + 1) = rowA Z t k e K n ++ (if ownB Z t n = true then rowF Z t k e K n 64 else []) := by
  unfold rowA; rw [List.range_succ, List.flatMap_append]; simp
theorem rowA_all (Z : List Int) (t : Nat) (k e : Int) (K : Nat) : rowA Z t k e K 64 = mvR Z t k e K := by
  unfold rowA mvR
  symm
  refine flat_filter _ _ _ _ (fun f _ => ?_)
  split
  · unfold rowF
    refine flat_filter _ _ _ _ (fun q _ => rfl)
  · rfl
theorem rowQ_len (Z : List Int) (t : Nat) (k e : Int) (K f q : Nat) : (rowQ Z t k e K f q).length ≤ 4 := by
  unfold rowQ
  split
  · rw [List.length_map]; exact inB_len Z f q
  · simp
theorem rowF_len (Z : List Int) (t : Nat) (k e : Int) (K f n : Nat) : (rowF Z t k e K f n).length ≤ n * 4 := by
  have := flat_len (rowQ Z t k e K f) 4 (List.range n) (fun q _ => rowQ_len Z t k e K f q)
  rwa [List.length_range] at this
theorem rowA_len (Z : List Int) (t : Nat) (k e : Int) (K n : Nat) : (rowA Z t k e K n).length ≤ n * 256 := by
  have := flat_len (fun f => if ownB Z t f = true then rowF Z t k e K f 64 else []) 256 (List.range n) (fun f _ => by
    show (if ownB Z t f = true then rowF Z t k e K f 64 else []).length ≤ 256
    split
    · have := rowF_len Z t k e K f 64; omega
    · simp)
  rwa [List.length_range] at this
theorem mvs_rowA {p : Ps} (hM : MayP p) : mvs p = rowA p.Z p.t (p.k : Nat) p.e (kf p.Z p.t) 64 := by
  rw [rowA_all]
  exact mv_eq hM.t1 hM.st hM.cas hM.pas (kf_kg hM.st p.t)

end Go.Proofs.YtdmlamnonbmboaaDoor

namespace Go.Proofs.YtdmlamnonbmboaaDoor
open Go.RowKit Go.Shelf

/-- 64 numbers at a block's beginning. -/
structure Mw (w : World) (rb : Nat) (L : List Int) : Prop where
  ex : ∃ cur : Array Value, w.heap[rb]? = some (.cells cur 3 (0, 0)) ∧ cur.toList.take 64 = ivs L
  len : L.length = 64
theorem Mw.cell {w : World} {rb : Nat} {L : List Int} (h : Mw w rb L) {i : Nat} (hi : i < 64) : w.cell? ⟨rb, i, none⟩ = some (.int .i64 (L.getD i 0)) := by
  obtain ⟨cur, hc, ht⟩ := h.ex
  have hl := h.len
  have h1 : (ivs L)[i]? = some (.int .i64 (L.getD i 0)) := by simp [ivs, List.getD, show i < L.length by omega]
  rw [← ht, List.getElem?_take, if_pos hi] at h1
  simp [World.cell?, hc]
  simpa using h1
theorem Mw.frozen {w : World} {rb : Nat} {L : List Int} (h : Mw w rb L) (i : Nat) : w.frozen? ⟨rb, i, none⟩ = false := by
  obtain ⟨cur, hc, ht⟩ := h.ex
  simp [World.frozen?, hc]
theorem Mw.lt {w : World} {rb : Nat} {L : List Int} (h : Mw w rb L) : rb < w.heap.size := by
  obtain ⟨cur, hc, _⟩ := h.ex
  exact (Array.getElem?_eq_some_iff.1 hc).1
theorem Mw.keeps {X : Nat → Prop} {w w' : World} {rb : Nat} {L : List Int} (h : Mw w rb L) (hk : Keeps X w w') (hX : ¬ X rb) : Mw w' rb L := by
  obtain ⟨cur, hc, ht⟩ := h.ex
  exact ⟨⟨cur, (hk.block rb h.lt hX).trans hc, ht⟩, h.len⟩
theorem Mw.mono {w w' : World} {rb : Nat} {L : List Int} (h : Mw w rb L) (hb : Below w.heap.size w w') : Mw w' rb L := h.keeps (X := fun _ => False) (Keeps.of_all hb) (fun e => e)
theorem Mw.set {w : World} {rb : Nat} {L : List Int} (h : Mw w rb L) (i : Nat) (v : Int) : Mw (w.setCell ⟨rb, i, none⟩ (.int .i64 v)) rb (L.set i v) := by
  obtain ⟨cur, hc, ht⟩ := h.ex
  have hl := h.len
  have hcs : 64 ≤ cur.size := by
    have h2 : (cur.toList.take 64).length = 64 := by rw [ht, ivs_length, hl]
    rw [List.length_take] at h2
    have : cur.toList.length = cur.size := rfl
    omega
  refine ⟨⟨cur.setIfInBounds i (.int .i64 v), ?_, ?_⟩, by rw [List.length_set, hl]⟩
  · simp [World.setCell, Array.getElem?_modify, hc]
  · have e1 : (cur.setIfInBounds i (.int .i64 v)).toList = cur.toList.set i (.int .i64 v) := by simp
    rw [e1, List.take_set, ht]
    simp [ivs, List.map_set]
theorem Mw.rd {w : World} {rb c : Nat} {L : List Int} (h : Mw w rb L) (hc : 64 ≤ c) (hm : c ≤ maxLen) : Rd w (some ⟨rb, 0, none⟩) 64 c L :=
  ⟨h.len, hc, hm, fun e => (by cases e), fun _ => ⟨rb, 0, rfl, fun i hi => by rw [Nat.zero_add]; exact h.cell hi⟩⟩
theorem Mw.of_own {w : World} {base : Nat} {a : Option Addr} {c : Nat} {L : List Int} (h : w.ownsRow base 3 1 (.slice a 64 c) 64 (ivs L)) : ∃ rb, a = some ⟨rb, 0, none⟩ ∧ base ≤ rb ∧ 64 ≤ c ∧ c ≤ maxLen ∧ Mw w rb L := by
  rcases h.2 with ⟨hv, h0⟩ | ⟨g, cap, cur, hv, hb, hg, hnc, hcm, hcs, ht⟩
  · omega
  · simp only [Value.slice.injEq] at hv
    obtain ⟨rfl, -, rfl⟩ := hv
    refine ⟨g, rfl, hb, hnc, hcm, ⟨⟨cur, hg, ?_⟩, ?_⟩⟩
    · simpa using ht
    · have := h.1
      rw [ivs_length] at this
      omega

section
variable {w : World} {b : Nat} {a : Option Addr} {n c : Nat} {t k e h f : Int}
theorem Ch.setT (H : Ch w b a n c t k e h f) (v : Int) : Ch (w.setCell ⟨b, 1, none⟩ (.int .i64 v)) b a n c v k e h f := by
  have h' : w.heap[b]? = _ := H
  simp [Ch, World.setCell, Array.getElem?_modify, h']
theorem Ch.setK (H : Ch w b a n c t k e h f) (v : Int) : Ch (w.setCell ⟨b, 2, none⟩ (.int .i64 v)) b a n c t v e h f := by
  have h' : w.heap[b]? = _ := H
  simp [Ch, World.setCell, Array.getElem?_modify, h']
theorem Ch.setE (H : Ch w b a n c t k e h f) (v : Int) : Ch (w.setCell ⟨b, 3, none⟩ (.int .i64 v)) b a n c t k v h f := by
  have h' : w.heap[b]? = _ := H
  simp [Ch, World.setCell, Array.getElem?_modify, h']
theorem Ch.setH (H : Ch w b a n c t k e h f) (v : Int) : Ch (w.setCell ⟨b, 4, none⟩ (.int .i64 v)) b a n c t k e v f := by
  have h' : w.heap[b]? = _ := H
  simp [Ch, World.setCell, Array.getElem?_modify, h']
theorem Ch.setF (H : Ch w b a n c t k e h f) (v : Int) : Ch (w.setCell ⟨b, 5, none⟩ (.int .i64 v)) b a n c t k e h v := by
  have h' : w.heap[b]? = _ := H
  simp [Ch, World.setCell, Array.getElem?_modify, h']
end

/-- ChessOf tells a position of its own. -/
theorem ChessOf_own (a : Option Addr) (c : Nat) (Z : List Int) (t k e h f : Int) (w : World) (hz : Rd w a 64 c Z) :
    Calls Tryd.prog 6 #[.agg (chA a 64 c t k e h f)] w fun r w' => ∃ rb c', r = .returned (.agg (chA (some ⟨rb, 0, none⟩) 64 c' t k e h f)) ∧ Mw w' rb Z ∧ w.heap.size ≤ rb ∧ 64 ≤ c' ∧ c' ≤ maxLen ∧ Below w.heap.size w w' := by
  go_enter Tryd.func6, Tryd.ntmps6
  go_upto_region 1 with fail
  obtain ⟨w1, hw1⟩ : ∃ w1, (w.alloc (Obj.cells (chA a 64 c t k e h f) 24)).alloc (Obj.cells #[.slice none 0 0, .int .i64 0, .int .i64 0, .int .i64 0, .int .i64 0, .int .i64 0] 24) = w1 := ⟨_, rfl⟩
  rw [hw1]
  have K1 : Ch w1 w.heap.size a 64 c t k e h f := by rw [← hw1]; exact (Ch.new w a 64 c t k e h f).old _
  have K2 : Ch w1 (w.heap.size + 1) none 0 0 0 0 0 0 0 := by
    rw [← hw1]
    have := Ch.new (w.alloc (Obj.cells (chA a 64 c t k e h f) 24)) none 0 0 0 0 0 0 0
    rw [World.size_alloc] at this
    exact this
  have hs1 : w1.heap.size = w.heap.size + 1 + 1 := by rw [← hw1]; simp
  have B1 : Below w.heap.size w w1 := by rw [← hw1]; exact ((Below.refl _ w).alloc (Nat.le_refl _) _).alloc (by simp) _
  clear hw1
  have HS := hide hs1
  have CALL := hide (ints_own a 64 c Z w1 (hz.mono B1) (by omega))
  rw [hs1] at CALL
  clear hs1
  obtain ⟨g0, -⟩ := K1.cells
  go_wp2_with fail
  refine CALL.out.mono ?_
  rintro r w2 ⟨a', c', rfl, hO, hb⟩
  have K12 := K1.below (C := w.heap.size + 1 + 1) hb (by omega)
  have K22 := K2.below (C := w.heap.size + 1 + 1) hb (by omega)
  have B2 := B1.trans (hb.mono (by omega))
  clear K1 K2 B1 g0 CALL hb
  obtain ⟨g0, -⟩ := K12.cells
  have f0 := K12.frozen 0
  have HO := hide hO
  clear hO
  go_upto_region 2 with fail
  have K13 := K12.setP a' 64 c'
  have K23 := K22.other (show w.heap.size + 1 ≠ w.heap.size by omega) 0 (.slice a' 64 c')
  have B3 := B2.setCell (p := ⟨w.heap.size, 0, none⟩) (Nat.le_refl _) (.slice a' 64 c')
  have O3 := hide (own_keeps HO.out (Keeps.set1 w2 w.heap.size 0 (.slice a' 64 c')) (by omega))
  generalize w2.setCell ⟨w.heap.size, 0, none⟩ (.slice a' 64 c') = w3 at *
  clear K12 K22 B2 g0 f0 HO
  go_wp2_with (first
    | refine wpList_load_ch rfl (.tmp 1) rfl w.heap.size rfl K13 ?_
    | (refine wpList_store_ch rfl (.tmp 2) (.tmp 7) rfl (w.heap.size + 1) rfl rfl K23 ?_; intro w6 k6 kk6))
  obtain ⟨rb, rfl, hbr, h64, hmx, hmw⟩ := Mw.of_own (own_keeps O3.out kk6 (by omega))
  refine bodyPost_ret (results_ch rfl _ _ (w.heap.size + 1) rfl k6) rfl ⟨rb, c', rfl, hmw, by omega, h64, hmx, ?_⟩
  exact B3.trans ((kk6.mono (Y := fun k => w.heap.size ≤ k) (fun k _ e => by omega)).below (by have := B3.size; omega) (fun k hk e => by omega))

end Go.Proofs.YtdmlamnonbmboaaDoor
