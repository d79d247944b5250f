/-
  The document's own way to put a sign: direction by direction, sign by sign. No conditions beyond those that each theorem bears.
-/
import Derived.Test.YtkmghlmniahgbaaDoorBf
namespace Go.Proofs.YtkmghlmniahgbaaDoor
open Go.RowKit

/-- The document's directions, in its order (the fourth is none). -/
def dxq (q : Nat) : Int := ((q / 3 : Nat) : Int) - 1
def dyq (q : Nat) : Int := ((q % 3 : Nat) : Int) - 1

theorem q_of_d : ∀ d, d < 8 → ∃ q, q < 9 ∧ q ≠ 4 ∧ dxq q = dxs d ∧ dyq q = dys d := by
  intro d hd
  rcases (show d = 0 ∨ d = 1 ∨ d = 2 ∨ d = 3 ∨ d = 4 ∨ d = 5 ∨ d = 6 ∨ d = 7 by omega) with rfl | rfl | rfl | rfl | rfl | rfl | rfl | rfl
  · exact ⟨7, by decide⟩
  · exact ⟨1, by decide⟩
  · exact ⟨5, by decide⟩
  · exact ⟨3, by decide⟩
  · exact ⟨8, by decide⟩
  · exact ⟨2, by decide⟩
  · exact ⟨6, by decide⟩
  · exact ⟨0, by decide⟩

theorem d_of_q : ∀ q, q < 9 → q ≠ 4 → ∃ d, d < 8 ∧ dxs d = dxq q ∧ dys d = dyq q := by
  intro q hq h4
  rcases (show q = 0 ∨ q = 1 ∨ q = 2 ∨ q = 3 ∨ q = 5 ∨ q = 6 ∨ q = 7 ∨ q = 8 by omega) with rfl | rfl | rfl | rfl | rfl | rfl | rfl | rfl
  · exact ⟨7, by decide⟩
  · exact ⟨1, by decide⟩
  · exact ⟨5, by decide⟩
  · exact ⟨3, by decide⟩
  · exact ⟨2, by decide⟩
  · exact ⟨6, by decide⟩
  · exact ⟨0, by decide⟩
  · exact ⟨4, by decide⟩

/-- How many are turned in a direction of the document's. -/
def flq (c : Int → Int → Int) (who x y : Int) (q : Nat) : Nat := if q = 4 then 0 else fl c who (dxq q) (dyq q) x y

/-- How many in the first q. -/
def mnq (c : Int → Int → Int) (who x y : Int) (q : Nat) : Nat := ((List.range q).map (flq c who x y)).sum

theorem mnq_zero (c : Int → Int → Int) (who x y : Int) : mnq c who x y 0 = 0 := rfl
theorem mnq_succ (c : Int → Int → Int) (who x y : Int) (q : Nat) : mnq c who x y (q + 1) = mnq c who x y q + flq c who x y q := by
  unfold mnq; rw [List.range_succ, List.map_append, List.sum_append]; simp

theorem flq_le {c : Int → Int → Int} {who x y : Int} (hc : OnC c) (hw : who = 1 ∨ who = 2) (h : onB 8 8 x y = true) {q : Nat} (hq : q < 9) : flq c who x y q ≤ 6 := by
  unfold flq
  split
  · omega
  · rename_i h4
    obtain ⟨d, hd, e1, e2⟩ := d_of_q q hq h4
    rw [← e1, ← e2]
    exact fl_lt hc (ds_dir hd) hw h

theorem mnq_le {c : Int → Int → Int} {who x y : Int} (hc : OnC c) (hw : who = 1 ∨ who = 2) (h : onB 8 8 x y = true) : ∀ q, q ≤ 9 → mnq c who x y q ≤ 6 * q
  | 0, _ => by rw [mnq_zero]; omega
  | q + 1, hq => by
    have := mnq_le hc hw h q (by omega)
    have := flq_le hc hw h (q := q) (by omega)
    rw [mnq_succ]; omega

/-- Is the place k turned in one of the first q directions? -/
def Tq (W : Nat) (c : Int → Int → Int) (who x y : Int) (q k : Nat) : Prop := ∃ r, r < q ∧ ∃ j : Nat, 1 ≤ j ∧ j ≤ flq c who x y r ∧ ((k % W : Nat) : Int) = x + j * dxq r ∧ ((k / W : Nat) : Int) = y + j * dyq r

theorem tq_none (W : Nat) (c : Int → Int → Int) (who x y : Int) (k : Nat) : ¬ Tq W c who x y 0 k := by rintro ⟨r, hr, _⟩; omega

theorem tq_skip {W : Nat} {c : Int → Int → Int} {who x y : Int} {q : Nat} (h : flq c who x y q = 0) (k : Nat) : Tq W c who x y (q + 1) k ↔ Tq W c who x y q k := by
  constructor
  · rintro ⟨r, hr, j, h1, h2, h3⟩
    by_cases e : r = q
    · subst e; omega
    · exact ⟨r, by omega, j, h1, h2, h3⟩
  · rintro ⟨r, hr, h1⟩; exact ⟨r, by omega, h1⟩

theorem tq_nine {W : Nat} {c : Int → Int → Int} {who x y : Int} (hc : OnC c) (hw : who = 1 ∨ who = 2) (h : onB 8 8 x y = true) (k : Nat) : Tq W c who x y 9 k ↔ tn c who x y ((k % W : Nat) : Int) ((k / W : Nat) : Int) = true := by
  rw [tn_iff hc hw h]
  constructor
  · rintro ⟨r, hr, j, h1, h2, h3, h4⟩
    unfold flq at h2
    split at h2
    · omega
    · rename_i e
      obtain ⟨d, hd, e1, e2⟩ := d_of_q r hr e
      refine ⟨d, hd, j, h1, ?_, ?_, ?_⟩
      · rw [e1, e2]; exact h2
      · rw [e1]; exact h3
      · rw [e2]; exact h4
  · rintro ⟨d, hd, j, h1, h2, h3, h4⟩
    obtain ⟨q, hq, e, e1, e2⟩ := q_of_d d hd
    refine ⟨q, hq, j, h1, ?_, ?_, ?_⟩
    · unfold flq; rw [if_neg e, e1, e2]; exact h2
    · rw [e1]; exact h3
    · rw [e2]; exact h4

theorem mnq_pos {c : Int → Int → Int} {who x y : Int} : 0 < mnq c who x y 9 ↔ ∃ d, d < 8 ∧ 1 ≤ fl c who (dxs d) (dys d) x y := by
  have hs : ∀ q, 0 < mnq c who x y q ↔ ∃ r, r < q ∧ 1 ≤ flq c who x y r := by
    intro q
    induction q with
    | zero => rw [mnq_zero]; constructor
              · intro h; omega
              · rintro ⟨r, hr, _⟩; omega
    | succ q ih =>
      rw [mnq_succ]
      constructor
      · intro h
        by_cases h1 : 0 < mnq c who x y q
        · obtain ⟨r, hr, h2⟩ := ih.1 h1
          exact ⟨r, by omega, h2⟩
        · exact ⟨q, by omega, by omega⟩
      · rintro ⟨r, hr, h2⟩
        by_cases e : r = q
        · subst e; omega
        · have := ih.2 ⟨r, by omega, h2⟩; omega
  rw [hs]
  constructor
  · rintro ⟨r, hr, h1⟩
    unfold flq at h1
    split at h1
    · omega
    · rename_i e
      obtain ⟨d, hd, e1, e2⟩ := d_of_q r hr e
      exact ⟨d, hd, by rw [e1, e2]; exact h1⟩
  · rintro ⟨d, hd, h1⟩
    obtain ⟨q, hq, e, e1, e2⟩ := q_of_d d hd
    refine ⟨q, hq, ?_⟩
    unfold flq; rw [if_neg e, e1, e2]; exact h1

/-- A list that has m at the places that P tells, and is zs else. -/
def PtS (n : Nat) (zs : List Int) (m : Int) (P : Nat → Prop) (Y : List Int) : Prop := Y.length = n ∧ ∀ k, k < n → (P k → Y.getD k 0 = m) ∧ (¬ P k → Y.getD k 0 = zs.getD k 0)

theorem PtS.start {n : Nat} {zs : List Int} {m : Int} {P : Nat → Prop} (hl : zs.length = n) (h : ∀ k, ¬ P k) : PtS n zs m P zs := ⟨hl, fun k _ => ⟨fun hp => absurd hp (h k), fun _ => rfl⟩⟩
theorem PtS.congr {n : Nat} {zs : List Int} {m : Int} {P P' : Nat → Prop} {Y : List Int} (h : PtS n zs m P Y) (hp : ∀ k, k < n → (P' k ↔ P k)) : PtS n zs m P' Y :=
  ⟨h.1, fun k hk => ⟨fun h1 => (h.2 k hk).1 ((hp k hk).1 h1), fun h1 => (h.2 k hk).2 (fun h2 => h1 ((hp k hk).2 h2))⟩⟩
theorem PtS.set {n : Nat} {zs : List Int} {m : Int} {P : Nat → Prop} {Y : List Int} (h : PtS n zs m P Y) {Q : Nat} (hQ : Q < n) : PtS n zs m (fun k => P k ∨ k = Q) (Y.set Q m) := by
  refine ⟨by rw [List.length_set]; exact h.1, fun k hk => ?_⟩
  have hl := h.1
  by_cases e : k = Q
  · subst e
    refine ⟨fun _ => by simp [List.getD, hl, hk], fun h1 => absurd (Or.inr rfl) h1⟩
  · have e' : ¬ Q = k := fun x => e x.symm
    have : (Y.set Q m).getD k 0 = Y.getD k 0 := by simp [List.getD, e']
    rw [this]
    exact ⟨fun h1 => (h.2 k hk).1 (h1.resolve_right e), fun h1 => (h.2 k hk).2 (fun h2 => h1 (Or.inl h2))⟩

theorem list_ext {n : Nat} {X Y : List Int} (hx : X.length = n) (hy : Y.length = n) (h : ∀ k, k < n → X.getD k 0 = Y.getD k 0) : X = Y := by
  apply List.ext_getElem (by omega)
  intro i h1 h2
  have := h i (by omega)
  simpa [List.getD, h1, h2] using this

/-- How many are turned by a sign put at p, and the board behind it, as the document has them. -/
def psN (W H : Nat) (Z : List Int) (m p : Nat) : Nat := if Z.getD p 0 = 0 then mnq (cl W H Z) (m : Int) ((p % W : Nat) : Int) ((p / W : Nat) : Int) 9 else 0
def psY (W H : Nat) (Z : List Int) (m p : Nat) : List Int := if 0 < psN W H Z m p then pz W H Z m p else Z

theorem psN_lg {W H : Nat} {Z : List Int} {m p : Nat} (hW : 0 < W) (hp : p < W * H) : 0 < psN W H Z m p ↔ lg (cl W H Z) (m : Int) ((p % W : Nat) : Int) ((p / W : Nat) : Int) = true := by
  rw [lg_iff, (cl_at (zs := Z) hW hp).1]
  unfold psN
  split
  · rename_i h; rw [mnq_pos]; exact ⟨fun h1 => ⟨h, h1⟩, fun h1 => h1.2⟩
  · rename_i h
    constructor
    · intro h1; omega
    · exact fun h1 => absurd h1.1 h

theorem psY_is {gW gH n : Nat} {zs : List Int} {m p : Nat} (b : Og gW gH n zs) (hm : m = 1 ∨ m = 2) (hp : p < n) (h0 : zs.getD p 0 = 0) {Y : List Int} (h : PtS n zs m (Tq gW (cl gW gH zs) m ((p % gW : Nat) : Int) ((p / gW : Nat) : Int) 9) Y) :
    (0 < psN gW gH zs m p → Y.set p m = psY gW gH zs m p) ∧ (psN gW gH zs m p = 0 → Y = psY gW gH zs m p) := by
  have hW := b.wd
  have hpb := cl_at (zs := zs) (show 0 < gW by omega) (show p < gW * gH by rw [b.mul]; exact hp)
  have h8 := on8_of b.wd.2 b.ht.2 hpb.2
  have hc := cl_onC b.wd.2 b.ht.2 zs
  constructor
  · intro hN
    unfold psY
    rw [if_pos hN]
    have h2 := h.set hp
    refine list_ext h2.1 (by rw [pz_len, b.mul]) fun k hk => ?_
    rw [pz_at (by rw [b.mul]; exact hk)]
    split
    · rename_i e
      refine (h2.2 k hk).1 ?_
      rcases e with e | e
      · exact Or.inr e
      · exact Or.inl ((tq_nine hc (by omega) h8 k).2 e)
    · rename_i e
      refine (h2.2 k hk).2 ?_
      rintro (e1 | e1)
      · exact e (Or.inr ((tq_nine hc (by omega) h8 k).1 e1))
      · exact e (Or.inl e1)
  · intro hN
    unfold psY
    rw [if_neg (by omega)]
    refine list_ext h.1 b.len fun k hk => (h.2 k hk).2 ?_
    intro e
    have ht := (tq_nine hc (by omega) h8 k).1 e
    obtain ⟨d, hd, j, j1, j2, _⟩ := (tn_iff hc (by omega) h8).1 ht
    unfold psN at hN
    rw [if_pos h0] at hN
    have := mnq_pos.2 ⟨d, hd, Nat.le_trans j1 j2⟩
    omega

theorem on_nat {gW gH m : Nat} {x y : Int} (hm : gW * gH = m) (h : onB gW gH x y = true) : ∃ xn yn A Q : Nat, x = xn ∧ y = yn ∧ xn < gW ∧ yn < gH ∧ (yn : Int) * (gW : Int) = (A : Int) ∧ (A : Int) + (xn : Int) = (Q : Int) ∧ Q < m ∧ (y * gW + x).toNat = Q ∧ Q % gW = xn ∧ Q / gW = yn := by
  rw [onB_iff] at h
  obtain ⟨xn, rfl⟩ := Int.eq_ofNat_of_zero_le h.1
  obtain ⟨yn, rfl⟩ := Int.eq_ofNat_of_zero_le h.2.2.1
  have e : ((yn : Int) * gW + xn).toNat = yn * gW + xn := by rw [← Int.natCast_mul, ← Int.natCast_add, Int.toNat_natCast]
  have hx : xn < gW := by omega
  refine ⟨xn, yn, yn * gW, yn * gW + xn, rfl, rfl, hx, by omega, by rw [Int.natCast_mul], by rw [Int.natCast_add], ?_, e, (place_of hx).1, (place_of hx).2⟩
  have h2 : (yn + 1) * gW ≤ gH * gW := Nat.mul_le_mul_right gW (by omega)
  rw [Nat.add_mul, Nat.one_mul] at h2
  rw [← hm, Nat.mul_comm gW gH]
  omega

theorem cl_onN {W H : Nat} {zs : List Int} {x y : Int} {Q : Nat} (hb : onB W H x y = true) (hQ : (y * W + x).toNat = Q) : cl W H zs x y = zs.getD Q 0 := by
  unfold cl
  rw [if_pos hb, hQ]

theorem cl_offN {W H : Nat} {zs : List Int} {x y : Int} (hb : onB W H x y = false) : cl W H zs x y = -1 := by
  unfold cl
  rw [if_neg (by rw [hb]; simp)]

theorem results_gdt {fn : Func} {t u : Tmp} (h : fn.results = #[.cell t 24, .tmp u]) (tmps : Array Value) (w : World) (b : Nat) (hb : tmps.getD t undef = .pointer (some ⟨b, 0, none⟩)) {W H : Int} {ad : Option Addr} {n c : Nat} (hr : Gd w b W H ad n c) {v : Value} (hv : tmps.getD u undef = v) :
    (results fn tmps).run Tryd.prog w = .ok (.tuple #[.agg (gdA W H ad n c), v]) w := by
  have hb' : tmps[t]?.getD undef = .pointer (some ⟨b, 0, none⟩) := by simpa using hb
  have hv' : tmps[u]?.getD undef = v := by simpa using hv
  have hl := run_loadVar_row (P := Tryd.prog) w b 24 24 (gdA W H ad n c) (0, 0) _ hr Tryd.underlying24 rfl size24
  simp [results, h, hb', hv', asAddr, hl]

/-- The world while a board of the call's own is written: its cells are Y. -/
structure PW (w3 : World) (B cb n cc : Nat) (wr : World) (Y : List Int) : Prop where
  k : Keeps (fun k => k = cb) w3 wr
  o : wr.ownsRow B 3 1 (.slice (some ⟨cb, 0, none⟩) n cc) n (Y.map (Value.int .i64))

theorem PW.drewN {w3 : World} {B cb n cc : Nat} {wr : World} {Y : List Int} (h : PW w3 B cb n cc wr Y) (q : Nat) : PW w3 B cb n cc (wr.drewN q) Y :=
  ⟨h.k.trans (Keeps.of_all (drewN_below _ _ _)), own_blk h.o (fun g _ => by rw [drewN_heap])⟩

theorem PW.set {w3 : World} {B cb n cc : Nat} {wr : World} {Y : List Int} (h : PW w3 B cb n cc wr Y) (Q : Nat) (x : Int) : PW w3 B cb n cc (wr.setCell ⟨cb, Q, none⟩ (.int .i64 x)) (Y.set Q x) := by
  refine ⟨h.k.setCell (X := fun k => k = cb) rfl _, ?_⟩
  have := (World.ownsRow.stored h.o Q (.int .i64 x)).1
  rwa [← List.map_set] at this

theorem PW.cell {w3 : World} {B cb n cc : Nat} {wr : World} {Y : List Int} (h : PW w3 B cb n cc wr Y) {Q : Nat} (hQ : Q < n) : (∃ v, wr.cell? ⟨cb, Q, none⟩ = some (.int .i64 v)) ∧ wr.frozen? ⟨cb, Q, none⟩ = false := by
  refine ⟨?_, World.ownsRow.frozenAt h.o Q⟩
  have hl : Y.length = n := by simpa using h.o.1
  exact ⟨Y.getD Q 0, by rw [World.ownsRow.cellAt h.o Q (by omega)]; simp [List.getD, hl, hQ]⟩

attribute [local irreducible] cl fl onB Tq mnq flq dxq dyq psN psY

set_option maxRecDepth 100000 in
set_option maxHeartbeats 16000000 in
theorem PutSign_any (gW gH : Nat) (a : Option Addr) (n c : Nat) (zs : List Int) (m p : Nat) (w : World) (h : Rd w a n c zs) (b : Og gW gH n zs) (hm : m = 1 ∨ m = 2) (hp : p < n) :
    Calls Tryd.prog 20 #[.agg (gdA gW gH a n c), .int .i64 (m : Nat), .int .i64 (p : Nat)] w fun e w' => ∃ cb cc, e = .returned (.tuple #[.agg (gdA gW gH (some ⟨cb, 0, none⟩) n cc), .int .i64 (psN gW gH zs m p : Nat)]) ∧ w'.ownsRow w.heap.size 3 1 (.slice (some ⟨cb, 0, none⟩) n cc) n ((psY gW gH zs m p).map (Value.int .i64)) ∧ Below w.heap.size w w' := by
  have hn64 := b.n64
  have hcm := h.max
  unfold maxLen at hcm
  have hcc := h.cap
  have HR := hide h
  obtain ⟨ba, oa, rfl, hca⟩ := h.cells (by omega)
  have hba : ba < w.heap.size := World.block_lt_of_cell? w _ (hca 0 (by omega))
  have hgw := b.wd
  have hgh := b.ht
  have hpc := cl_at (zs := zs) (show 0 < gW by omega) (show p < gW * gH by rw [b.mul]; exact hp)
  have h8 := on8_of b.wd.2 b.ht.2 hpc.2
  have hC := cl_onC b.wd.2 b.ht.2 zs
  have hpx : p % gW < gW := Nat.mod_lt _ (by omega)
  have hpy : p / gW < gH := Nat.div_lt_of_lt_mul (by rw [b.mul]; exact hp)
  have HM := hide b.mul
  have HCO : Hid (∀ x y, 0 ≤ cl gW gH zs x y → onB gW gH x y = true) := hide (fun x y hx => cl_on (v := cl gW gH zs x y) hx rfl)
  have HLEN : Hid (∀ q, q < 9 → q ≠ 4 → ∀ i : Nat, onB gW gH (((p % gW : Nat) : Int) + ((i + 1 : Nat) : Int) * dxq q) (((p / gW : Nat) : Int) + ((i + 1 : Nat) : Int) * dyq q) = true → i ≤ 6) := hide (fun q hq h4 i hi => by
    obtain ⟨d, hd, e1, e2⟩ := d_of_q q hq h4
    have := far_8 (ds_dir hd) h8 (m := i + 1) (by rw [e1, e2]; exact on8_of b.wd.2 b.ht.2 hi)
    omega)
  have HFL : Hid (∀ q, q ≠ 4 → flq (cl gW gH zs) m ((p % gW : Nat) : Int) ((p / gW : Nat) : Int) q = fl (cl gW gH zs) m (dxq q) (dyq q) ((p % gW : Nat) : Int) ((p / gW : Nat) : Int)) := hide (fun q h4 => by unfold flq; rw [if_neg h4])
  have HF4 : Hid (flq (cl gW gH zs) m ((p % gW : Nat) : Int) ((p / gW : Nat) : Int) 4 = 0) := hide (by unfold flq; rw [if_pos rfl])
  have HMQ := hide (mnq_succ (cl gW gH zs) m ((p % gW : Nat) : Int) ((p / gW : Nat) : Int))
  have HML := hide (fun q hq => mnq_le hC (show (m : Int) = 1 ∨ (m : Int) = 2 by omega) h8 q hq)
  have HIS := hide (fun h0 Y hY => psY_is b hm hp h0 (Y := Y) hY)
  have HN0 : Hid (zs.getD p 0 = 0 → psN gW gH zs m p = mnq (cl gW gH zs) m ((p % gW : Nat) : Int) ((p / gW : Nat) : Int) 9) := hide (fun h0 => by unfold psN; rw [if_pos h0])
  have HN1 : Hid (¬ zs.getD p 0 = 0 → psN gW gH zs m p = 0 ∧ psY gW gH zs m p = zs) := hide (fun h0 => by unfold psY psN; rw [if_neg h0]; exact ⟨rfl, if_neg (by omega)⟩)
  have HSK := hide (fun q hq k => tq_skip (W := gW) (c := cl gW gH zs) (who := m) (x := ((p % gW : Nat) : Int)) (y := ((p / gW : Nat) : Int)) (q := q) hq k)
  have HZN := hide (tq_none gW (cl gW gH zs) m ((p % gW : Nat) : Int) ((p / gW : Nat) : Int))
  have HLZ := hide b.len
  have hm1 : Int.tmod (p : Int) (gW : Int) = ((p % gW : Nat) : Int) := by rw [Int.tmod_eq_emod_of_nonneg (by omega)]; simp
  have hm2 : (p : Int) % (gW : Int) = ((p % gW : Nat) : Int) := by simp
  have hq1 : Int.tdiv (p : Int) (gW : Int) = ((p / gW : Nat) : Int) := by rw [Int.tdiv_eq_ediv_of_nonneg (by omega)]; simp
  have hq2 : (p : Int) / (gW : Int) = ((p / gW : Nat) : Int) := by simp
  have hwn : ¬ (gW : Int) = 0 := by omega
  have h3m : (3 : Int) - (m : Int) = ((3 - m : Nat) : Int) := by omega
  have hm12 : 1 ≤ m ∧ m ≤ 2 := by omega
  generalize p % gW = px at *
  generalize p / gW = py at *
  have HTQ : Hid (∀ q k, Tq gW (cl gW gH zs) m (px : Int) (py : Int) q k ↔ ∃ r, r < q ∧ ∃ j : Nat, 1 ≤ j ∧ j ≤ flq (cl gW gH zs) m (px : Int) (py : Int) r ∧ ((k % gW : Nat) : Int) = px + j * dxq r ∧ ((k / gW : Nat) : Int) = py + j * dyq r) := hide (fun q k => by rw [Tq])
  -- what is turned in one direction more
  have HTS : Hid (∀ q (i : Nat), flq (cl gW gH zs) m (px : Int) (py : Int) q = i → ∀ k, Tq gW (cl gW gH zs) m (px : Int) (py : Int) (q + 1) k ↔ (Tq gW (cl gW gH zs) m (px : Int) (py : Int) q k ∨ ∃ j : Nat, 1 ≤ j ∧ j < i + 1 ∧ ((k % gW : Nat) : Int) = px + j * dxq q ∧ ((k / gW : Nat) : Int) = py + j * dyq q)) := hide (fun q i hi k => by
    rw [HTQ.out, HTQ.out]
    constructor
    · rintro ⟨r, hr, j, j1, j2, j3⟩
      by_cases e : r = q
      · subst e; exact Or.inr ⟨j, j1, by omega, j3⟩
      · exact Or.inl ⟨r, by omega, j, j1, j2, j3⟩
    · rintro (⟨r, hr, j⟩ | ⟨j, j1, j2, j3⟩)
      · exact ⟨r, by omega, j⟩
      · exact ⟨q, by omega, j, j1, by omega, j3⟩)
  obtain ⟨NN, hNN⟩ : ∃ NN, psN gW gH zs m p = NN := ⟨_, rfl⟩
  obtain ⟨YY, hYY⟩ : ∃ YY, psY gW gH zs m p = YY := ⟨_, rfl⟩
  rw [hNN] at HIS HN0 HN1 ⊢
  rw [hYY] at HIS HN1 ⊢
  have HGO := hide (fun W1 h1 => GridOf_own (gW : Int) (gH : Int) (some ⟨ba, oa, none⟩) n c zs W1 h1 (by omega))
  clear h b hm hpc h8 hC hNN hYY hca
  go_enter Tryd.func20, Tryd.ntmps20
  go_upto_region 1 with fail
  obtain ⟨w1, hw1⟩ : ∃ w1, (w.alloc (.cells (gdA gW gH (some ⟨ba, oa, none⟩) n c) 24)).alloc (.cells (gdA 0 0 none 0 0) 24) = w1 := ⟨_, rfl⟩
  have HB1 : Hid (Below w.heap.size w w1) := hide (by rw [← hw1]; exact ((Below.refl _ w).alloc (Nat.le_refl _) _).alloc (by simp) _)
  have G1 : Gd w1 w.heap.size gW gH (some ⟨ba, oa, none⟩) n c := by rw [← hw1]; exact (Gd.new w _ _ _ _ _).old _
  have Z1 : Gd w1 (w.heap.size + 1) 0 0 none 0 0 := by
    rw [← hw1]
    have := Gd.new (w.alloc (.cells (gdA gW gH (some ⟨ba, oa, none⟩) n c) 24)) 0 0 none 0 0
    rw [World.size_alloc] at this
    exact this
  have s1 : w1.heap.size = w.heap.size + 2 := by rw [← hw1]; simp
  have HCAL := hide (HGO.out w1 (HR.out.mono HB1.out))
  rw [hw1]
  clear hw1 HGO
  go_wp2_with (refine wpList_load_gd rfl (.tmp 3) rfl w.heap.size rfl G1 ?_)
  refine HCAL.out.mono ?_
  rintro e w2 ⟨a', cc, rfl, hO, hb2⟩
  have G2 := G1.below hb2 G1.lt
  have Z2 := Z1.below hb2 Z1.lt
  have HB2 := hide (HB1.out.trans (hb2.mono HB1.out.size))
  have HR2 := hide (HR.out.mono HB2.out)
  obtain ⟨cb, rfl⟩ : ∃ cb, a' = some ⟨cb, 0, none⟩ := by
    rcases hO.2 with ⟨hv, h0⟩ | ⟨g, cap, cur, hv, _⟩
    · omega
    · simp only [Value.slice.injEq] at hv
      exact ⟨g, hv.1⟩
  have hcb := hO.lt cb rfl
  have hcc2 : n ≤ cc ∧ cc ≤ maxLen := by
    have := Rd.of_own hO
    exact ⟨this.cap, this.max⟩
  rw [s1] at hcb
  have HO2 : Hid (w2.ownsRow w.heap.size 3 1 (.slice (some ⟨cb, 0, none⟩) n cc) n (zs.map (Value.int .i64))) := hide (own_base hO (by omega))
  have hs2 : cb < w2.heap.size := hcb.2
  have hcm2 := hcc2.2
  unfold maxLen at hcm2
  have hcn2 := hcc2.1
  have hcb1 := hcb.1
  clear G1 Z1 hO hb2 HCAL HB1 hcc2 hcb HR
  go_upto_region 2 with fail
  obtain ⟨w3, hw3⟩ : ∃ w3, w2.alloc (.cells (gdA gW gH (some ⟨cb, 0, none⟩) n cc) 24) = w3 := ⟨_, rfl⟩
  obtain ⟨b8, hb8⟩ : ∃ b8, w2.heap.size = b8 := ⟨_, rfl⟩
  have B23 : Below w2.heap.size w2 w3 := by rw [← hw3]; exact (Below.refl _ w2).alloc (Nat.le_refl _) _
  have HP3 : Hid (PW w3 w.heap.size cb n cc w3 zs) := hide ⟨Keeps.refl _ _, own_blk HO2.out (fun g hg => by simp only [Value.ownBlock, Option.some.injEq] at hg; rw [← hg]; exact B23.block _ hs2)⟩
  have G3 : Gd w3 w.heap.size gW gH (some ⟨ba, oa, none⟩) n c := G2.below B23 G2.lt
  have Z3 : Gd w3 (w.heap.size + 1) 0 0 none 0 0 := Z2.below B23 Z2.lt
  have V3 : Gd w3 b8 gW gH (some ⟨cb, 0, none⟩) n cc := by rw [← hw3, ← hb8]; exact Gd.new w2 _ _ _ _ _
  have R3 := HR2.out.mono B23
  have HB3 : Hid (Below w.heap.size w w3) := hide (HB2.out.trans (B23.mono HB2.out.size))
  have HFA : Hid (∀ wr Y, PW w3 w.heap.size cb n cc wr Y → Gd wr w.heap.size gW gH (some ⟨ba, oa, none⟩) n c ∧ Gd wr (w.heap.size + 1) 0 0 none 0 0 ∧ Gd wr b8 gW gH (some ⟨cb, 0, none⟩) n cc ∧ (∀ i, i < n → wr.cell? ⟨ba, oa + i, none⟩ = some (.int .i64 (zs.getD i 0)))) := hide (fun wr Y hP => by
    refine ⟨G3.keeps hP.k (by show ¬ w.heap.size = cb; omega), Z3.keeps hP.k (by show ¬ w.heap.size + 1 = cb; omega), V3.keeps hP.k (by show ¬ b8 = cb; omega), fun i hi => ?_⟩
    exact hP.k.cell (R3.cell hi).2 (by show ¬ ba = cb; omega))
  rw [hw3, hb8]
  have hb8' : cb < b8 := by omega
  clear hw3 hb8 B23 G2 Z2 HO2 HB2 HR2 G3 Z3 V3 R3 hs2
  have FA3 := HFA.out _ _ HP3.out
  obtain ⟨-, -, g2⟩ := FA3.1.cells
  have cp := FA3.2.2.2 p hp
  by_cases hz0 : zs.getD p 0 = 0
  rotate_left
  · obtain ⟨e1, e2⟩ := HN1.out hz0
    have e3 := e2.symm
    subst e1 e3
    obtain ⟨v, hv⟩ : ∃ v, zs.getD p 0 = v := ⟨_, rfl⟩
    rw [hv] at cp hz0
    have hne : (v != (0 : Int)) = true := by simpa using hz0
    have V3 := FA3.2.2.1
    have Z3 := FA3.2.1
    clear hz0 hv FA3
    go_wp2_with (first
      | refine wpList_load_gd rfl (.tmp 8) rfl b8 rfl V3 ?_
      | (refine wpList_store_gd rfl (.tmp 6) (.tmp 24) rfl (w.heap.size + 1) rfl rfl Z3 ?_; intro w6 k6 kk6))
    refine bodyPost_ret (results_gdt rfl _ _ (w.heap.size + 1) rfl k6 rfl) rfl ⟨cb, cc, rfl, ?_, ?_⟩
    · exact own_blk HP3.out.o (fun g hg => by
        simp only [Value.ownBlock, Option.some.injEq] at hg
        rw [← hg]
        have := HP3.out.o.lt cb rfl
        exact kk6.block _ this.2 (by show ¬ cb = w.heap.size + 1; omega))
    · exact HB3.out.trans ((kk6.mono (Y := fun q => w.heap.size ≤ q) (fun q _ e => by omega)).below (B := w.heap.size) HB3.out.size (fun q hq e => by omega))
  · rw [hz0] at cp
    have HNE := hide (HN0.out hz0)
    have HIS2 := hide (fun Y hY => HIS.out hz0 Y hY)
    clear HIS HN0 HN1 hz0 FA3
    go_wp2_with fail
    clear g2 cp
    go_loopw [9, 10] (fun u v wr => ∃ (dx : Int) (A mn : Nat) (Y : List Int), v = .int .i64 dx ∧ u = .int .i64 mn ∧ -1 ≤ dx ∧ dx ≤ 2 ∧ A ≤ 3 ∧ Hid (dx = (A : Int) - 1) ∧ Hid (mn = mnq (cl gW gH zs) m px py (3 * A)) ∧ Hid (PtS n zs m (Tq gW (cl gW gH zs) m px py (3 * A)) Y) ∧ Hid (PW w3 w.heap.size cb n cc wr Y)) (fun _ v _ => (2 - intOf v).toNat)
    case atStart => exact ⟨-1, 0, 0, zs, rfl, rfl, by omega, by omega, by omega, hide rfl, hide (by rw [Nat.mul_zero]; rw [mnq]; rfl), hide (PtS.start HLZ.out (fun k => by rw [Nat.mul_zero]; exact HZN.out k)), HP3⟩
    case round =>
      obtain ⟨dx, A, mn, Y, rfl, rfl, hx1, hx2, hA3, hXA, hMn, hPt, hPW⟩ := hrel
      by_cases hdx : dx ≤ 1
      · have hA2 : A ≤ 2 := by have := hXA.out; omega
        go_wp2_with fail
        go_loopw [9, 11] (fun u v wr => ∃ (dy : Int) (B mn : Nat) (Y : List Int), v = .int .i64 dy ∧ u = .int .i64 mn ∧ -1 ≤ dy ∧ dy ≤ 2 ∧ B ≤ 3 ∧ Hid (dy = (B : Int) - 1) ∧ Hid (mn = mnq (cl gW gH zs) m px py (3 * A + B)) ∧ Hid (PtS n zs m (Tq gW (cl gW gH zs) m px py (3 * A + B)) Y) ∧ Hid (PW w3 w.heap.size cb n cc wr Y)) (fun _ v _ => (2 - intOf v).toNat)
        case atStart => exact ⟨-1, 0, mn, Y, rfl, rfl, by omega, by omega, by omega, hide rfl, hMn, hPt, hPW⟩
        case round =>
          clear hMn hPt hPW
          obtain ⟨dy, B, mn, Y, rfl, rfl, hy1, hy2, hB3, hYB, hMn, hPt, hPW⟩ := hrel
          by_cases hdy : dy ≤ 1
          · have hB2 : B ≤ 2 := by have := hYB.out; omega
            have HQX : Hid (dxq (3 * A + B) = dx) := hide (by rw [dxq, hXA.out]; omega)
            have HQY : Hid (dyq (3 * A + B) = dy) := hide (by rw [dyq, hYB.out]; omega)
            have hmn : mn ≤ 54 := by have := HML.out (3 * A + B) (by omega); have := hMn.out; omega
            obtain ⟨q, hq⟩ : ∃ q, 3 * A + B = q := ⟨_, rfl⟩
            have HQ := hide hq
            have hq9 : q < 9 := by omega
            rw [hq] at HQX HQY hMn hPt
            have HMS : Hid (mnq (cl gW gH zs) m px py (q + 1) = mn + flq (cl gW gH zs) m px py q) := hide (by rw [HMQ.out, hMn.out])
            -- a direction in which nothing is turned
            have HSKIP : Hid (flq (cl gW gH zs) m px py q = 0 → mn = mnq (cl gW gH zs) m px py (3 * A + (B + 1)) ∧ PtS n zs m (Tq gW (cl gW gH zs) m px py (3 * A + (B + 1))) Y) := hide (fun h0 => by
              rw [show 3 * A + (B + 1) = q + 1 by have := HQ.out; omega]
              exact ⟨by rw [HMS.out, h0]; omega, hPt.out.congr (fun k _ => HSK.out q h0 k)⟩)
            clear hq
            by_cases hb : dx = 0 ∧ dy = 0
            · have hq4 : q = 4 := by have := HQ.out; have := hXA.out; have := hYB.out; omega
              obtain ⟨k1, k2⟩ := HSKIP.out (by rw [hq4]; exact HF4.out)
              have HK1 := hide k1
              have HK2 := hide k2
              obtain ⟨rfl, rfl⟩ := hb
              clear k1 k2 hq4
              go_wp2_with fail
              refine ⟨⟨0 + 1, B + 1, mn, Y, by go_num, rfl, by omega, by omega, by omega, hide (by have := hYB.out; omega), HK1, HK2, hPW⟩, by simp [intOf]⟩
            · have hq4 : q ≠ 4 := by have := HQ.out; have := hXA.out; have := hYB.out; omega
              have hgo : ((dx == (0 : Int)) = false) ∨ ((dx == (0 : Int)) = true ∧ (dy == (0 : Int)) = false) := by
                by_cases e : dx = 0
                · exact Or.inr ⟨by simpa using e, by simp; omega⟩
                · exact Or.inl (by simpa using e)
              have HL6 := hide (HLEN.out q hq9 hq4)
              have HFQ := hide (HFL.out q hq4)
              rw [HQX.out, HQY.out] at HL6 HFQ
              have HTSq := hide (HTS.out q)
              rw [HQX.out, HQY.out] at HTSq
              clear hb hq4
              rcases hgo with hg1 | ⟨hg1, hg2⟩
              · obtain ⟨g0, g1, -⟩ := (HFA.out _ _ hPW.out).1.cells
                go_upto_region 13 with fail
                go_quiet (fail)
                go_wp2_with fail
                clear g0 g1
                go_loopw [12, 13, 14] (fun u v z wr => ∃ (i : Nat) (x y : Int), u = .int .i64 i ∧ v = .int .i64 x ∧ z = .int .i64 y ∧ i ≤ 7 ∧ -9 ≤ x ∧ x ≤ 16 ∧ -9 ≤ y ∧ y ≤ 16 ∧ Hid (x = px + ((i + 1 : Nat) : Int) * dx) ∧ Hid (y = py + ((i + 1 : Nat) : Int) * dy) ∧ Hid (∀ j : Nat, 1 ≤ j → j ≤ i → cl gW gH zs (px + j * dx) (py + j * dy) = 3 - (m : Int)) ∧ Hid (PW w3 w.heap.size cb n cc wr Y)) (fun u _ _ _ => 8 - (intOf u).toNat)
                case atStart => exact ⟨0, _, _, rfl, rfl, rfl, by omega, by omega, by omega, by omega, by omega, hide (by simp), hide (by simp), hide (fun j a b => by omega), hide (hPW.out.drewN _)⟩
                case round =>
                  clear hPW
                  obtain ⟨i, x, y, rfl, rfl, rfl, hi7, hx3, hx4, hy3, hy4, hXX, hYY, hALL, hPW2⟩ := hrel
                  have FA := HFA.out _ _ hPW2.out
                  obtain ⟨g0, g1, g2⟩ := FA.1.cells
                  have HEX := hide (fun h2 => fl_exit (c := cl gW gH zs) (who := m) (dx := dx) (dy := dy) (x := px) (y := py) (i := i) (by omega) hALL.out h2)
                  rw [← hXX.out, ← hYY.out] at HEX
                  by_cases hb : onB gW gH x y = true
                  · have hi6 := HL6.out i (by rw [← hXX.out, ← hYY.out]; exact hb)
                    obtain ⟨xn, yn, Aa, I, ex, ey, hxl, hyl, hAa, hI, hIm, hidx, -, -⟩ := on_nat HM.out hb
                    have ci := FA.2.2.2 I hIm
                    have HCL := hide (cl_onN (zs := zs) hb hidx)
                    rw [HCL.out] at HEX
                    have d1 : decide ((0 : Int) ≤ (xn : Int) ∧ (xn : Int) ≤ (gW : Int) - 1) = true := decide_eq_true (by omega)
                    have d2 : decide ((0 : Int) ≤ (yn : Int) ∧ (yn : Int) ≤ (gH : Int) - 1) = true := decide_eq_true (by omega)
                    have HNX : Hid (zs.getD I 0 = 3 - (m : Int) → ∀ j : Nat, 1 ≤ j → j ≤ i + 1 → cl gW gH zs (px + j * dx) (py + j * dy) = 3 - (m : Int)) := hide (fun hh j a b => by
                      by_cases e : j = i + 1
                      · subst e; rw [← hXX.out, ← hYY.out, HCL.out]; exact hh
                      · exact hALL.out j a (by omega))
                    have HNP : Hid (x + dx = px + ((i + 1 + 1 : Nat) : Int) * dx ∧ y + dy = py + ((i + 1 + 1 : Nat) : Int) * dy) := hide (by
                      rw [hXX.out, hYY.out, sh1 (i + 1), sh1 (i + 1)]; omega)
                    subst ex ey
                    clear hb hidx FA HCL
                    obtain ⟨vi, hvi⟩ : ∃ vi, zs.getD I 0 = vi := ⟨_, rfl⟩
                    rw [hvi] at ci HNX HEX
                    clear hvi
                    by_cases hv : vi = 3 - (m : Int)
                    · have hve : (vi == ((3 - m : Nat) : Int)) = true := by rw [beq_iff_eq]; omega
                      have HNN := hide (HNX.out hv)
                      clear hv HEX HNX
                      go_wp2_with fail
                      refine (within_any xn 0 (gW - 1) _).mono ?_
                      rintro e wx ⟨rfl, hwx⟩
                      subst wx
                      rw [d1]
                      go_wp2_with fail
                      refine (within_any yn 0 (gH - 1) _).mono ?_
                      rintro e wx ⟨rfl, hwx⟩
                      subst wx
                      rw [d2]
                      go_wp2_with fail
                      refine ⟨⟨i + 1, (xn : Int) + dx, (yn : Int) + dy, by go_num, rfl, rfl, by omega, by omega, by omega, by omega, by omega, hide HNP.out.1, hide HNP.out.2, HNN, hPW2⟩, by simp [intOf]; omega⟩
                    · have hve : (vi == ((3 - m : Nat) : Int)) = false := by rw [beq_eq_false_iff_ne]; omega
                      have HEX2 := hide (HEX.out hv)
                      clear hv HEX HNX HNP
                      by_cases hvm : vi = (m : Int)
                      · have hvn : (vi != (m : Int)) = false := by simpa using hvm
                        have HFI : Hid (flq (cl gW gH zs) m px py q = i) := hide (by rw [HFQ.out, HEX2.out, if_pos hvm])
                        have HTI := hide (HTSq.out i HFI.out)
                        clear hvm HEX2 HFQ HSKIP
                        go_wp2_with fail
                        refine (within_any xn 0 (gW - 1) _).mono ?_
                        rintro e wx ⟨rfl, hwx⟩
                        subst wx
                        rw [d1]
                        go_wp2_with fail
                        refine (within_any yn 0 (gH - 1) _).mono ?_
                        rintro e wx ⟨rfl, hwx⟩
                        subst wx
                        rw [d2]
                        go_wp2_with fail
                        refine (within_any xn 0 (gW - 1) _).mono ?_
                        rintro e wx ⟨rfl, hwx⟩
                        subst wx
                        rw [d1]
                        go_wp2_with fail
                        refine (within_any yn 0 (gH - 1) _).mono ?_
                        rintro e wx ⟨rfl, hwx⟩
                        subst wx
                        rw [d2]
                        go_wp2_with fail
                        clear g0 g1 g2 ci d1 d2
                        go_loopw [15] (fun v wr => ∃ (j : Nat) (Y : List Int), v = .int .i64 j ∧ 1 ≤ j ∧ j ≤ i + 1 ∧ Hid (PtS n zs m (fun k => Tq gW (cl gW gH zs) m px py q k ∨ ∃ r : Nat, 1 ≤ r ∧ r < j ∧ ((k % gW : Nat) : Int) = px + r * dx ∧ ((k / gW : Nat) : Int) = py + r * dy) Y) ∧ Hid (PW w3 w.heap.size cb n cc wr Y)) (fun v _ => i + 1 - (intOf v).toNat)
                        case atStart => exact ⟨1, Y, rfl, by omega, by omega, hide (hPt.out.congr (fun k _ => ⟨fun h1 => h1.elim id (fun ⟨r, r1, r2, _⟩ => by omega), Or.inl⟩)), hPW2⟩
                        case round =>
                          clear hPW2
                          obtain ⟨j, Y, rfl, hj1, hji, hPj, hPW2⟩ := hrel
                          by_cases hlt : j ≤ i
                          · have hlt' : (j : Int) ≤ (i : Int) := by omega
                            have hon : onB gW gH (px + (j : Int) * dx) (py + (j : Int) * dy) = true := HCO.out _ _ (by rw [hALL.out j hj1 hlt]; omega)
                            obtain ⟨xj, yj, Aj, Qj, exj, eyj, hxj, hyj, hAj, hQj, hQm, -, hQ1, hQ2⟩ := on_nat HM.out hon
                            obtain ⟨PX, hPX⟩ : ∃ PX, (j : Int) * dx = PX := ⟨_, rfl⟩
                            obtain ⟨PY, hPY⟩ : ∃ PY, (j : Int) * dy = PY := ⟨_, rfl⟩
                            rw [hPX] at exj hon
                            rw [hPY] at eyj hon
                            have hmx : (j : Int) * dx = PX := hPX
                            have hmy : (j : Int) * dy = PY := hPY
                            have hpyy : (py : Int) + PY = (yj : Int) := eyj
                            have hAp : (Aj : Int) + (px : Int) = ((Aj + px : Nat) : Int) := by omega
                            have hQq : ((Aj + px : Nat) : Int) + PX = (Qj : Int) := by omega
                            have hPb : -10 ≤ PX ∧ PX ≤ 10 := by omega
                            have hPb2 : -10 ≤ PY ∧ PY ≤ 10 := by omega
                            obtain ⟨Bj, hBj⟩ : ∃ Bj, Aj + px = Bj := ⟨_, rfl⟩
                            rw [hBj] at hAp hQq
                            have hBb : Bj ≤ 200 := by omega
                            have HPS : Hid (PtS n zs m (fun k => Tq gW (cl gW gH zs) m px py q k ∨ ∃ r : Nat, 1 ≤ r ∧ r < j + 1 ∧ ((k % gW : Nat) : Int) = px + r * dx ∧ ((k / gW : Nat) : Int) = py + r * dy) (Y.set Qj m)) := hide ((hPj.out.set hQm).congr (fun k hk => by
                              constructor
                              · rintro (h1 | ⟨r, r1, r2, r3, r4⟩)
                                · exact Or.inl (Or.inl h1)
                                · by_cases e : r = j
                                  · subst e
                                    refine Or.inr ?_
                                    rw [hPX, exj] at r3
                                    rw [hPY, eyj] at r4
                                    have e1 := Nat.div_add_mod k gW
                                    have e2 := Nat.div_add_mod Qj gW
                                    rw [← e1, ← e2, hQ1, hQ2, show k % gW = xj by omega, show k / gW = yj by omega]
                                  · exact Or.inl (Or.inr ⟨r, r1, by omega, r3, r4⟩)
                              · rintro ((h1 | ⟨r, r1, r2, r3⟩) | rfl)
                                · exact Or.inl h1
                                · exact Or.inr ⟨r, r1, by omega, r3⟩
                                · exact Or.inr ⟨j, hj1, by omega, by rw [hPX, exj, hQ1], by rw [hPY, eyj, hQ2]⟩))
                            have FA := HFA.out _ _ hPW2.out
                            obtain ⟨g0, -, -⟩ := FA.1.cells
                            obtain ⟨-, -, g2⟩ := FA.2.2.1.cells
                            obtain ⟨⟨vv, cv⟩, fv⟩ := hPW2.out.cell hQm
                            have HPW3 := hide ((hPW2.out.drewN 1).set Qj (m : Int))
                            clear hPX hPY exj eyj hon hQj hQ1 hQ2 FA hBj
                            go_upto_region 21 with fail
                            go_region
                            go_wp2_with fail
                            refine ⟨⟨j + 1, Y.set Qj m, by go_num, by omega, by omega, HPS, HPW3⟩, by simp [intOf]; omega⟩
                          · have hlt' : ¬ (j : Int) ≤ (i : Int) := by omega
                            have hje : j = i + 1 := by omega
                            have HK1 : Hid (mn + i = mnq (cl gW gH zs) m px py (3 * A + (B + 1))) := hide (by rw [show 3 * A + (B + 1) = q + 1 by have := HQ.out; omega, HMS.out, HFI.out])
                            have HK2 : Hid (PtS n zs m (Tq gW (cl gW gH zs) m px py (3 * A + (B + 1))) Y) := hide (by
                              rw [show 3 * A + (B + 1) = q + 1 by have := HQ.out; omega]
                              refine hPj.out.congr (fun k _ => ?_)
                              rw [hje]
                              exact HTI.out k)
                            clear hje
                            go_wp2_with fail
                            refine ⟨⟨dy + 1, B + 1, mn + i, Y, by go_num, by go_num, by omega, by omega, by omega, hide (by have := hYB.out; omega), HK1, HK2, hPW2⟩, by simp [intOf]; omega⟩
                      · have hvn : (vi != (m : Int)) = true := by simpa using hvm
                        obtain ⟨k1, k2⟩ := HSKIP.out (by rw [HFQ.out, HEX2.out, if_neg hvm])
                        have HK1 := hide k1
                        have HK2 := hide k2
                        clear hvm HEX2 k1 k2
                        go_wp2_with fail
                        refine (within_any xn 0 (gW - 1) _).mono ?_
                        rintro e wx ⟨rfl, hwx⟩
                        subst wx
                        rw [d1]
                        go_wp2_with fail
                        refine (within_any yn 0 (gH - 1) _).mono ?_
                        rintro e wx ⟨rfl, hwx⟩
                        subst wx
                        rw [d2]
                        go_wp2_with fail
                        refine (within_any xn 0 (gW - 1) _).mono ?_
                        rintro e wx ⟨rfl, hwx⟩
                        subst wx
                        rw [d1]
                        go_wp2_with fail
                        refine (within_any yn 0 (gH - 1) _).mono ?_
                        rintro e wx ⟨rfl, hwx⟩
                        subst wx
                        rw [d2]
                        go_wp2_with fail
                        refine ⟨⟨dy + 1, B + 1, mn, Y, by go_num, rfl, by omega, by omega, by omega, hide (by have := hYB.out; omega), HK1, HK2, hPW2⟩, by simp [intOf]; omega⟩
                  · have hb' : onB gW gH x y = false := by simpa using hb
                    have HOF := hide (cl_offN (zs := zs) hb')
                    rw [HOF.out] at HEX
                    obtain ⟨k1, k2⟩ := HSKIP.out (by rw [HFQ.out, HEX.out (by omega), if_neg (by omega)])
                    have HK1 := hide k1
                    have HK2 := hide k2
                    have HO : Hid (¬ (0 ≤ x ∧ x < gW ∧ 0 ≤ y ∧ y < gH)) := hide (fun h => hb (onB_iff.2 h))
                    clear hb hb' HEX HOF k1 k2
                    by_cases h1 : 0 ≤ x ∧ x ≤ (gW : Int) - 1
                    · have d1 : decide ((0 : Int) ≤ x ∧ x ≤ (gW : Int) - 1) = true := decide_eq_true h1
                      have d2 : decide ((0 : Int) ≤ y ∧ y ≤ (gH : Int) - 1) = false := decide_eq_false (fun h2 => HO.out (by omega))
                      clear h1
                      go_wp2_with fail
                      refine (within_any x 0 (gW - 1) _).mono ?_
                      rintro e wx ⟨rfl, hwx⟩
                      subst wx
                      rw [d1]
                      go_wp2_with fail
                      refine (within_any y 0 (gH - 1) _).mono ?_
                      rintro e wx ⟨rfl, hwx⟩
                      subst wx
                      rw [d2]
                      go_wp2_with fail
                      refine (within_any x 0 (gW - 1) _).mono ?_
                      rintro e wx ⟨rfl, hwx⟩
                      subst wx
                      rw [d1]
                      go_wp2_with fail
                      refine (within_any y 0 (gH - 1) _).mono ?_
                      rintro e wx ⟨rfl, hwx⟩
                      subst wx
                      rw [d2]
                      go_wp2_with fail
                      refine ⟨⟨dy + 1, B + 1, mn, Y, by go_num, rfl, by omega, by omega, by omega, hide (by have := hYB.out; omega), HK1, HK2, hPW2⟩, by simp [intOf]; omega⟩
                    · have d1 : decide ((0 : Int) ≤ x ∧ x ≤ (gW : Int) - 1) = false := decide_eq_false h1
                      clear h1
                      go_wp2_with fail
                      refine (within_any x 0 (gW - 1) _).mono ?_
                      rintro e wx ⟨rfl, hwx⟩
                      subst wx
                      rw [d1]
                      go_wp2_with fail
                      refine (within_any x 0 (gW - 1) _).mono ?_
                      rintro e wx ⟨rfl, hwx⟩
                      subst wx
                      rw [d1]
                      go_wp2_with fail
                      refine ⟨⟨dy + 1, B + 1, mn, Y, by go_num, rfl, by omega, by omega, by omega, hide (by have := hYB.out; omega), HK1, HK2, hPW2⟩, by simp [intOf]; omega⟩
              · obtain ⟨g0, g1, -⟩ := (HFA.out _ _ hPW.out).1.cells
                go_upto_region 13 with fail
                go_quiet (fail)
                go_wp2_with fail
                clear g0 g1
                go_loopw [12, 13, 14] (fun u v z wr => ∃ (i : Nat) (x y : Int), u = .int .i64 i ∧ v = .int .i64 x ∧ z = .int .i64 y ∧ i ≤ 7 ∧ -9 ≤ x ∧ x ≤ 16 ∧ -9 ≤ y ∧ y ≤ 16 ∧ Hid (x = px + ((i + 1 : Nat) : Int) * dx) ∧ Hid (y = py + ((i + 1 : Nat) : Int) * dy) ∧ Hid (∀ j : Nat, 1 ≤ j → j ≤ i → cl gW gH zs (px + j * dx) (py + j * dy) = 3 - (m : Int)) ∧ Hid (PW w3 w.heap.size cb n cc wr Y)) (fun u _ _ _ => 8 - (intOf u).toNat)
                case atStart => exact ⟨0, _, _, rfl, rfl, rfl, by omega, by omega, by omega, by omega, by omega, hide (by simp), hide (by simp), hide (fun j a b => by omega), hide (hPW.out.drewN _)⟩
                case round =>
                  clear hPW
                  obtain ⟨i, x, y, rfl, rfl, rfl, hi7, hx3, hx4, hy3, hy4, hXX, hYY, hALL, hPW2⟩ := hrel
                  have FA := HFA.out _ _ hPW2.out
                  obtain ⟨g0, g1, g2⟩ := FA.1.cells
                  have HEX := hide (fun h2 => fl_exit (c := cl gW gH zs) (who := m) (dx := dx) (dy := dy) (x := px) (y := py) (i := i) (by omega) hALL.out h2)
                  rw [← hXX.out, ← hYY.out] at HEX
                  by_cases hb : onB gW gH x y = true
                  · have hi6 := HL6.out i (by rw [← hXX.out, ← hYY.out]; exact hb)
                    obtain ⟨xn, yn, Aa, I, ex, ey, hxl, hyl, hAa, hI, hIm, hidx, -, -⟩ := on_nat HM.out hb
                    have ci := FA.2.2.2 I hIm
                    have HCL := hide (cl_onN (zs := zs) hb hidx)
                    rw [HCL.out] at HEX
                    have d1 : decide ((0 : Int) ≤ (xn : Int) ∧ (xn : Int) ≤ (gW : Int) - 1) = true := decide_eq_true (by omega)
                    have d2 : decide ((0 : Int) ≤ (yn : Int) ∧ (yn : Int) ≤ (gH : Int) - 1) = true := decide_eq_true (by omega)
                    have HNX : Hid (zs.getD I 0 = 3 - (m : Int) → ∀ j : Nat, 1 ≤ j → j ≤ i + 1 → cl gW gH zs (px + j * dx) (py + j * dy) = 3 - (m : Int)) := hide (fun hh j a b => by
                      by_cases e : j = i + 1
                      · subst e; rw [← hXX.out, ← hYY.out, HCL.out]; exact hh
                      · exact hALL.out j a (by omega))
                    have HNP : Hid (x + dx = px + ((i + 1 + 1 : Nat) : Int) * dx ∧ y + dy = py + ((i + 1 + 1 : Nat) : Int) * dy) := hide (by
                      rw [hXX.out, hYY.out, sh1 (i + 1), sh1 (i + 1)]; omega)
                    subst ex ey
                    clear hb hidx FA HCL
                    obtain ⟨vi, hvi⟩ : ∃ vi, zs.getD I 0 = vi := ⟨_, rfl⟩
                    rw [hvi] at ci HNX HEX
                    clear hvi
                    by_cases hv : vi = 3 - (m : Int)
                    · have hve : (vi == ((3 - m : Nat) : Int)) = true := by rw [beq_iff_eq]; omega
                      have HNN := hide (HNX.out hv)
                      clear hv HEX HNX
                      go_wp2_with fail
                      refine (within_any xn 0 (gW - 1) _).mono ?_
                      rintro e wx ⟨rfl, hwx⟩
                      subst wx
                      rw [d1]
                      go_wp2_with fail
                      refine (within_any yn 0 (gH - 1) _).mono ?_
                      rintro e wx ⟨rfl, hwx⟩
                      subst wx
                      rw [d2]
                      go_wp2_with fail
                      refine ⟨⟨i + 1, (xn : Int) + dx, (yn : Int) + dy, by go_num, rfl, rfl, by omega, by omega, by omega, by omega, by omega, hide HNP.out.1, hide HNP.out.2, HNN, hPW2⟩, by simp [intOf]; omega⟩
                    · have hve : (vi == ((3 - m : Nat) : Int)) = false := by rw [beq_eq_false_iff_ne]; omega
                      have HEX2 := hide (HEX.out hv)
                      clear hv HEX HNX HNP
                      by_cases hvm : vi = (m : Int)
                      · have hvn : (vi != (m : Int)) = false := by simpa using hvm
                        have HFI : Hid (flq (cl gW gH zs) m px py q = i) := hide (by rw [HFQ.out, HEX2.out, if_pos hvm])
                        have HTI := hide (HTSq.out i HFI.out)
                        clear hvm HEX2 HFQ HSKIP
                        go_wp2_with fail
                        refine (within_any xn 0 (gW - 1) _).mono ?_
                        rintro e wx ⟨rfl, hwx⟩
                        subst wx
                        rw [d1]
                        go_wp2_with fail
                        refine (within_any yn 0 (gH - 1) _).mono ?_
                        rintro e wx ⟨rfl, hwx⟩
                        subst wx
                        rw [d2]
                        go_wp2_with fail
                        refine (within_any xn 0 (gW - 1) _).mono ?_
                        rintro e wx ⟨rfl, hwx⟩
                        subst wx
                        rw [d1]
                        go_wp2_with fail
                        refine (within_any yn 0 (gH - 1) _).mono ?_
                        rintro e wx ⟨rfl, hwx⟩
                        subst wx
                        rw [d2]
                        go_wp2_with fail
                        clear g0 g1 g2 ci d1 d2
                        go_loopw [15] (fun v wr => ∃ (j : Nat) (Y : List Int), v = .int .i64 j ∧ 1 ≤ j ∧ j ≤ i + 1 ∧ Hid (PtS n zs m (fun k => Tq gW (cl gW gH zs) m px py q k ∨ ∃ r : Nat, 1 ≤ r ∧ r < j ∧ ((k % gW : Nat) : Int) = px + r * dx ∧ ((k / gW : Nat) : Int) = py + r * dy) Y) ∧ Hid (PW w3 w.heap.size cb n cc wr Y)) (fun v _ => i + 1 - (intOf v).toNat)
                        case atStart => exact ⟨1, Y, rfl, by omega, by omega, hide (hPt.out.congr (fun k _ => ⟨fun h1 => h1.elim id (fun ⟨r, r1, r2, _⟩ => by omega), Or.inl⟩)), hPW2⟩
                        case round =>
                          clear hPW2
                          obtain ⟨j, Y, rfl, hj1, hji, hPj, hPW2⟩ := hrel
                          by_cases hlt : j ≤ i
                          · have hlt' : (j : Int) ≤ (i : Int) := by omega
                            have hon : onB gW gH (px + (j : Int) * dx) (py + (j : Int) * dy) = true := HCO.out _ _ (by rw [hALL.out j hj1 hlt]; omega)
                            obtain ⟨xj, yj, Aj, Qj, exj, eyj, hxj, hyj, hAj, hQj, hQm, -, hQ1, hQ2⟩ := on_nat HM.out hon
                            obtain ⟨PX, hPX⟩ : ∃ PX, (j : Int) * dx = PX := ⟨_, rfl⟩
                            obtain ⟨PY, hPY⟩ : ∃ PY, (j : Int) * dy = PY := ⟨_, rfl⟩
                            rw [hPX] at exj hon
                            rw [hPY] at eyj hon
                            have hmx : (j : Int) * dx = PX := hPX
                            have hmy : (j : Int) * dy = PY := hPY
                            have hpyy : (py : Int) + PY = (yj : Int) := eyj
                            have hAp : (Aj : Int) + (px : Int) = ((Aj + px : Nat) : Int) := by omega
                            have hQq : ((Aj + px : Nat) : Int) + PX = (Qj : Int) := by omega
                            have hPb : -10 ≤ PX ∧ PX ≤ 10 := by omega
                            have hPb2 : -10 ≤ PY ∧ PY ≤ 10 := by omega
                            obtain ⟨Bj, hBj⟩ : ∃ Bj, Aj + px = Bj := ⟨_, rfl⟩
                            rw [hBj] at hAp hQq
                            have hBb : Bj ≤ 200 := by omega
                            have HPS : Hid (PtS n zs m (fun k => Tq gW (cl gW gH zs) m px py q k ∨ ∃ r : Nat, 1 ≤ r ∧ r < j + 1 ∧ ((k % gW : Nat) : Int) = px + r * dx ∧ ((k / gW : Nat) : Int) = py + r * dy) (Y.set Qj m)) := hide ((hPj.out.set hQm).congr (fun k hk => by
                              constructor
                              · rintro (h1 | ⟨r, r1, r2, r3, r4⟩)
                                · exact Or.inl (Or.inl h1)
                                · by_cases e : r = j
                                  · subst e
                                    refine Or.inr ?_
                                    rw [hPX, exj] at r3
                                    rw [hPY, eyj] at r4
                                    have e1 := Nat.div_add_mod k gW
                                    have e2 := Nat.div_add_mod Qj gW
                                    rw [← e1, ← e2, hQ1, hQ2, show k % gW = xj by omega, show k / gW = yj by omega]
                                  · exact Or.inl (Or.inr ⟨r, r1, by omega, r3, r4⟩)
                              · rintro ((h1 | ⟨r, r1, r2, r3⟩) | rfl)
                                · exact Or.inl h1
                                · exact Or.inr ⟨r, r1, by omega, r3⟩
                                · exact Or.inr ⟨j, hj1, by omega, by rw [hPX, exj, hQ1], by rw [hPY, eyj, hQ2]⟩))
                            have FA := HFA.out _ _ hPW2.out
                            obtain ⟨g0, -, -⟩ := FA.1.cells
                            obtain ⟨-, -, g2⟩ := FA.2.2.1.cells
                            obtain ⟨⟨vv, cv⟩, fv⟩ := hPW2.out.cell hQm
                            have HPW3 := hide ((hPW2.out.drewN 1).set Qj (m : Int))
                            clear hPX hPY exj eyj hon hQj hQ1 hQ2 FA hBj
                            go_upto_region 21 with fail
                            go_region
                            go_wp2_with fail
                            refine ⟨⟨j + 1, Y.set Qj m, by go_num, by omega, by omega, HPS, HPW3⟩, by simp [intOf]; omega⟩
                          · have hlt' : ¬ (j : Int) ≤ (i : Int) := by omega
                            have hje : j = i + 1 := by omega
                            have HK1 : Hid (mn + i = mnq (cl gW gH zs) m px py (3 * A + (B + 1))) := hide (by rw [show 3 * A + (B + 1) = q + 1 by have := HQ.out; omega, HMS.out, HFI.out])
                            have HK2 : Hid (PtS n zs m (Tq gW (cl gW gH zs) m px py (3 * A + (B + 1))) Y) := hide (by
                              rw [show 3 * A + (B + 1) = q + 1 by have := HQ.out; omega]
                              refine hPj.out.congr (fun k _ => ?_)
                              rw [hje]
                              exact HTI.out k)
                            clear hje
                            go_wp2_with fail
                            refine ⟨⟨dy + 1, B + 1, mn + i, Y, by go_num, by go_num, by omega, by omega, by omega, hide (by have := hYB.out; omega), HK1, HK2, hPW2⟩, by simp [intOf]; omega⟩
                      · have hvn : (vi != (m : Int)) = true := by simpa using hvm
                        obtain ⟨k1, k2⟩ := HSKIP.out (by rw [HFQ.out, HEX2.out, if_neg hvm])
                        have HK1 := hide k1
                        have HK2 := hide k2
                        clear hvm HEX2 k1 k2
                        go_wp2_with fail
                        refine (within_any xn 0 (gW - 1) _).mono ?_
                        rintro e wx ⟨rfl, hwx⟩
                        subst wx
                        rw [d1]
                        go_wp2_with fail
                        refine (within_any yn 0 (gH - 1) _).mono ?_
                        rintro e wx ⟨rfl, hwx⟩
                        subst wx
                        rw [d2]
                        go_wp2_with fail
                        refine (within_any xn 0 (gW - 1) _).mono ?_
                        rintro e wx ⟨rfl, hwx⟩
                        subst wx
                        rw [d1]
                        go_wp2_with fail
                        refine (within_any yn 0 (gH - 1) _).mono ?_
                        rintro e wx ⟨rfl, hwx⟩
                        subst wx
                        rw [d2]
                        go_wp2_with fail
                        refine ⟨⟨dy + 1, B + 1, mn, Y, by go_num, rfl, by omega, by omega, by omega, hide (by have := hYB.out; omega), HK1, HK2, hPW2⟩, by simp [intOf]; omega⟩
                  · have hb' : onB gW gH x y = false := by simpa using hb
                    have HOF := hide (cl_offN (zs := zs) hb')
                    rw [HOF.out] at HEX
                    obtain ⟨k1, k2⟩ := HSKIP.out (by rw [HFQ.out, HEX.out (by omega), if_neg (by omega)])
                    have HK1 := hide k1
                    have HK2 := hide k2
                    have HO : Hid (¬ (0 ≤ x ∧ x < gW ∧ 0 ≤ y ∧ y < gH)) := hide (fun h => hb (onB_iff.2 h))
                    clear hb hb' HEX HOF k1 k2
                    by_cases h1 : 0 ≤ x ∧ x ≤ (gW : Int) - 1
                    · have d1 : decide ((0 : Int) ≤ x ∧ x ≤ (gW : Int) - 1) = true := decide_eq_true h1
                      have d2 : decide ((0 : Int) ≤ y ∧ y ≤ (gH : Int) - 1) = false := decide_eq_false (fun h2 => HO.out (by omega))
                      clear h1
                      go_wp2_with fail
                      refine (within_any x 0 (gW - 1) _).mono ?_
                      rintro e wx ⟨rfl, hwx⟩
                      subst wx
                      rw [d1]
                      go_wp2_with fail
                      refine (within_any y 0 (gH - 1) _).mono ?_
                      rintro e wx ⟨rfl, hwx⟩
                      subst wx
                      rw [d2]
                      go_wp2_with fail
                      refine (within_any x 0 (gW - 1) _).mono ?_
                      rintro e wx ⟨rfl, hwx⟩
                      subst wx
                      rw [d1]
                      go_wp2_with fail
                      refine (within_any y 0 (gH - 1) _).mono ?_
                      rintro e wx ⟨rfl, hwx⟩
                      subst wx
                      rw [d2]
                      go_wp2_with fail
                      refine ⟨⟨dy + 1, B + 1, mn, Y, by go_num, rfl, by omega, by omega, by omega, hide (by have := hYB.out; omega), HK1, HK2, hPW2⟩, by simp [intOf]; omega⟩
                    · have d1 : decide ((0 : Int) ≤ x ∧ x ≤ (gW : Int) - 1) = false := decide_eq_false h1
                      clear h1
                      go_wp2_with fail
                      refine (within_any x 0 (gW - 1) _).mono ?_
                      rintro e wx ⟨rfl, hwx⟩
                      subst wx
                      rw [d1]
                      go_wp2_with fail
                      refine (within_any x 0 (gW - 1) _).mono ?_
                      rintro e wx ⟨rfl, hwx⟩
                      subst wx
                      rw [d1]
                      go_wp2_with fail
                      refine ⟨⟨dy + 1, B + 1, mn, Y, by go_num, rfl, by omega, by omega, by omega, hide (by have := hYB.out; omega), HK1, HK2, hPW2⟩, by simp [intOf]; omega⟩
          · have hdy' : ¬ dy ≤ 1 := hdy
            have hBe : B = 3 := by have := hYB.out; omega
            have HK1 : Hid (mn = mnq (cl gW gH zs) m px py (3 * (A + 1))) := hide (by rw [show 3 * (A + 1) = 3 * A + B by omega]; exact hMn.out)
            have HK2 : Hid (PtS n zs m (Tq gW (cl gW gH zs) m px py (3 * (A + 1))) Y) := hide (by rw [show 3 * (A + 1) = 3 * A + B by omega]; exact hPt.out)
            clear hBe
            go_wp2_with fail
            refine ⟨⟨dx + 1, A + 1, mn, Y, by go_num, rfl, by omega, by omega, by omega, hide (by have := hXA.out; omega), HK1, HK2, hPW⟩, by simp [intOf]; omega⟩
      · have hdx' : ¬ dx ≤ 1 := hdx
        have hAe : A = 3 := by have := hXA.out; omega
        subst hAe
        have hNE2 : NN = mn := by rw [HNE.out, hMn.out]
        have hmn : mn ≤ 54 := by have h1 := HML.out (3 * 3) (by omega); rw [← hMn.out] at h1; omega
        have HIS3 := hide (HIS2.out Y hPt.out)
        subst hNE2
        obtain ⟨G4, Z4, V4, -⟩ := HFA.out _ _ hPW.out
        obtain ⟨-, -, g2⟩ := V4.cells
        by_cases hpos : 0 < NN
        · have hpos' : (NN : Int) > 0 := by omega
          have HE := hide (HIS3.out.1 hpos)
          obtain ⟨⟨vv, cv⟩, fv⟩ := hPW.out.cell hp
          have HP5 := hide (hPW.out.set p (m : Int))
          obtain ⟨-, Z5, V5, -⟩ := HFA.out _ _ HP5.out
          rw [HE.out] at HP5
          clear hpos HIS3 G4 Z4 V4
          go_wp2_with (first
            | refine wpList_load_gd rfl (.tmp 8) rfl b8 rfl V5 ?_
            | (refine wpList_store_gd rfl (.tmp 6) (.tmp 153) rfl (w.heap.size + 1) rfl rfl Z5 ?_; intro w6 k6 kk6))
          refine bodyPost_ret (results_gdt rfl _ _ (w.heap.size + 1) rfl k6 rfl) rfl ⟨cb, cc, rfl, ?_, ?_⟩
          · exact own_blk HP5.out.o (fun g hg => by
              simp only [Value.ownBlock, Option.some.injEq] at hg
              rw [← hg]
              have := HP5.out.o.lt cb rfl
              exact kk6.block _ this.2 (by show ¬ cb = w.heap.size + 1; omega))
          · have h6 : Keeps (fun q => w.heap.size ≤ q) w3 w6 := (HP5.out.k.mono (fun q _ e => by omega)).trans (kk6.mono (fun q _ e => by omega))
            exact HB3.out.trans (h6.below (B := w.heap.size) HB3.out.size (fun q hq e => by omega))
        · have hpos' : ¬ (NN : Int) > 0 := by omega
          have HE := hide (HIS3.out.2 (by omega))
          have HP5 := hPW
          rw [HE.out] at HP5
          clear hpos HIS3 G4
          go_wp2_with (first
            | refine wpList_load_gd rfl (.tmp 8) rfl b8 rfl V4 ?_
            | (refine wpList_store_gd rfl (.tmp 6) (.tmp 153) rfl (w.heap.size + 1) rfl rfl Z4 ?_; intro w6 k6 kk6))
          refine bodyPost_ret (results_gdt rfl _ _ (w.heap.size + 1) rfl k6 rfl) rfl ⟨cb, cc, rfl, ?_, ?_⟩
          · exact own_blk HP5.out.o (fun g hg => by
              simp only [Value.ownBlock, Option.some.injEq] at hg
              rw [← hg]
              have := HP5.out.o.lt cb rfl
              exact kk6.block _ this.2 (by show ¬ cb = w.heap.size + 1; omega))
          · have h6 : Keeps (fun q => w.heap.size ≤ q) w3 w6 := (HP5.out.k.mono (fun q _ e => by omega)).trans (kk6.mono (fun q _ e => by omega))
            exact HB3.out.trans (h6.below (B := w.heap.size) HB3.out.size (fun q hq e => by omega))

end Go.Proofs.YtkmghlmniahgbaaDoor
