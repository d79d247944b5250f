/-
  Rows of cells, loaded and stored whole, in a plain walk and inside a round. No conditions beyond those that each theorem bears.
  Chess: a state built whole: its cells. No conditions beyond those that each theorem bears.
  Chess: a position as numbers; what a move makes of it; the moves; rows of moves counted. No conditions beyond those that each theorem bears.
-/
import Derived.Test.YtdmlamnonbmboaaGreatDoorV31
import Derived.Test.YtdmlamnonbmboaaGreatDoorV07
import Derived.Laws.Tables
import Derived.Test.YtdmlamnonbmboaaGreatDoorV30
namespace Go.Proofs.YtdmlamnonbmboaaGreatDoor
open Go.RowKit Go.Shelf

/-- A type whose values are rows of so many cells. -/
structure RowT (t n : Nat) : Prop where
  u : ∃ d, Tryz.prog.underlying t = some d ∧ (match d with | .struct _ | .array _ _ => true | _ => false) = true
  s : (Tryz.prog.info? t).map (·.size) = some n

theorem row26 : RowT 32 3 := ⟨⟨_, Tryz.underlying32, rfl⟩, by kernel_rfl⟩
theorem row51 : RowT 46 64 := ⟨⟨_, Tryz.underlying46, rfl⟩, by kernel_rfl⟩
theorem row53 : RowT 48 69 := ⟨⟨_, Tryz.underlying48, rfl⟩, by kernel_rfl⟩

section
variable {l n : Nat} {ops : Array Oper} {rest : List Oper} {o : Oper} {a : Act} {w : World} {Q : Exit → Act → World → Prop}
theorem wpListIn_store_vb (hgd : o.guard = none) (t : Nat) (x y : Operand) (ho : o.op = .store t x y)
    (g : Nat) (L M : List Value) (hx : a.eval x = .pointer (some ⟨g, 0, none⟩)) (hy : a.eval y = .agg L.toArray) (hb : Vb w g t M) (hl : M.length = L.length) (hs : RowT t L.length) (h1 : ∀ u ∈ L, u.oneCell' = true)
    (h : ∀ w', Vb w' g t L → Keeps (fun k => k = g) w w' → wpListIn (Fence.wide.inRound l) n Tryz.prog ops Q rest (a.put o.dst undef) w') : wpListIn (Fence.wide.inRound l) n Tryz.prog ops Q (o :: rest) a w := by
  refine wpListIn_plain hgd fun _ hK => ?_
  have hb' : w.heap[g]? = _ := hb
  refine oper_round (fun c e => by rw [ho] at e; cases e) (wp_store_row t x y ho g L.toArray hx hy t M.toArray hb' (by rw [List.size_toArray]; exact hs.s) (by simp [hl]) (by simpa using h1) ?_)
  refine hK _ _ (h _ ?_ ?_)
  · simp [Vb, World.setRow, Array.getElem?_modify, hb']
  · exact ⟨rfl, rfl, rfl, by simp [World.setRow], fun k _ hk => by simp [World.setRow, Array.getElem?_modify, show ¬ g = k from fun e => hk e.symm]⟩
theorem wpList_store_vb (hgd : o.guard = none) (t : Nat) (x y : Operand) (ho : o.op = .store t x y)
    (g : Nat) (L M : List Value) (hx : a.eval x = .pointer (some ⟨g, 0, none⟩)) (hy : a.eval y = .agg L.toArray) (hb : Vb w g t M) (hl : M.length = L.length) (hs : RowT t L.length) (h1 : ∀ u ∈ L, u.oneCell' = true)
    (h : ∀ w', Vb w' g t L → Keeps (fun k => k = g) w w' → wpList Tryz.prog ops Q rest (a.put o.dst undef) w') : wpList Tryz.prog ops Q (o :: rest) a w := by
  refine wpList_plain hgd fun _ hK => ?_
  have hb' : w.heap[g]? = _ := hb
  refine wp_store_row t x y ho g L.toArray hx hy t M.toArray hb' (by rw [List.size_toArray]; exact hs.s) (by simp [hl]) (by simpa using h1) ?_
  refine hK _ _ (h _ ?_ ?_)
  · simp [Vb, World.setRow, Array.getElem?_modify, hb']
  · exact ⟨rfl, rfl, rfl, by simp [World.setRow], fun k _ hk => by simp [World.setRow, Array.getElem?_modify, show ¬ g = k from fun e => hk e.symm]⟩
theorem wpListIn_load_vb (hgd : o.guard = none) (t : Nat) (x : Operand) (ho : o.op = .load t x)
    (g : Nat) (hx : a.eval x = .pointer (some ⟨g, 0, none⟩)) {L : List Value} (hs : RowT t L.length) (hc : Vb w g t L)
    (h : wpListIn (Fence.wide.inRound l) n Tryz.prog ops Q rest (a.put o.dst (.agg L.toArray)) w) : wpListIn (Fence.wide.inRound l) n Tryz.prog ops Q (o :: rest) a w := by
  obtain ⟨d, hu, hd⟩ := hs.u
  exact wpListIn_plain hgd fun _ hK => oper_round (fun c e => by rw [ho] at e; cases e) (wp_load_row t x ho g hx t _ (0, 0) d hc hu (by cases d <;> first | rfl | cases hd) (by rw [List.size_toArray]; exact hs.s) (hK _ _ h))
theorem wpList_load_vb (hgd : o.guard = none) (t : Nat) (x : Operand) (ho : o.op = .load t x)
    (g : Nat) (hx : a.eval x = .pointer (some ⟨g, 0, none⟩)) {L : List Value} (hs : RowT t L.length) (hc : Vb w g t L)
    (h : wpList Tryz.prog ops Q rest (a.put o.dst (.agg L.toArray)) w) : wpList Tryz.prog ops Q (o :: rest) a w := by
  obtain ⟨d, hu, hd⟩ := hs.u
  exact wpList_plain hgd fun _ hK => wp_load_row t x ho g hx t _ (0, 0) d hc hu (by cases d <;> first | rfl | cases hd) (by rw [List.size_toArray]; exact hs.s) (hK _ _ h)
end

/-- A move as a row of cells. -/
abbrev mvC (m : Nat × Nat × Nat) : List Value := [.int .i64 (m.1 : Nat), .int .i64 (m.2.1 : Nat), .int .i64 (m.2.2 : Nat)]
theorem mvC_one (m : Nat × Nat × Nat) : ∀ u ∈ mvC m, u.oneCell' = true := by simp [mvC, Value.oneCell']

theorem and_pow (M y : Nat) : M &&& 2 ^ y = if M.testBit y = true then 2 ^ y else 0 := by
  apply Nat.eq_of_testBit_eq
  intro i
  rw [Nat.testBit_and, Nat.testBit_two_pow]
  by_cases e : y = i
  · subst e
    cases h : M.testBit y with
    | true => simp [Nat.testBit_two_pow_self]
    | false => simp
  · rw [decide_eq_false e, Bool.and_false]
    split
    · rw [Nat.testBit_two_pow, decide_eq_false e]
    · simp
theorem and_msk (p : Nat → Bool) {y : Nat} (hy : y < 64) : (bits BinOp.and .u64 ((msk p 64 : Nat) : Int) ((2 ^ y : Nat) : Int) == 0) = !(p y) := by
  rw [u64_and_nat _ _ (msk_lt' p 64 (by omega)) (pow_lt64 hy), and_pow, msk_bit, decide_eq_true hy, Bool.true_and]
  have h2 := Nat.two_pow_pos y
  cases p y with
  | true =>
    rw [if_pos rfl, Bool.not_true, beq_eq_false_iff_ne]
    omega
  | false => rfl

end Go.Proofs.YtdmlamnonbmboaaGreatDoor

namespace Go.Proofs.YtdmlamnonbmboaaGreatDoor
open Go.RowKit Go.Shelf

/-- A row laid into another one. -/
theorem lay_row : ∀ (vs : List Value) (off n : Nat) (cs : Array Value), off + n + vs.length ≤ cs.size →
    (((vs.zipIdx n).foldl (fun cs (p : Value × Nat) => cs.setIfInBounds (off + p.2) p.1) cs).toList = cs.toList.take (off + n) ++ vs ++ cs.toList.drop (off + n + vs.length))
  | [], off, n, cs, h => by simp
  | v :: vs, off, n, cs, h => by
    rw [List.length_cons] at h
    rw [List.zipIdx_cons, List.foldl_cons]
    have := lay_row vs off (n + 1) (cs.setIfInBounds (off + n) v) (by simp; omega)
    rw [this]
    have hlt : off + n < cs.toList.length := by rw [Array.length_toList]; omega
    have e1 : (cs.setIfInBounds (off + n) v).toList = cs.toList.set (off + n) v := by simp
    rw [e1, List.length_cons]
    apply List.ext_getElem?
    intro i
    simp only [List.getElem?_append, List.length_append, List.length_take, List.length_set, List.length_cons, List.getElem?_drop, List.getElem?_set, List.getElem?_take, List.getElem?_cons, Array.length_toList] at *
    have m1 : min (off + (n + 1)) cs.size = off + n + 1 := by omega
    have m2 : min (off + n) cs.size = off + n := by omega
    rw [m1, m2]
    by_cases h1 : i < off + n
    · rw [if_pos (by omega), if_pos (by omega), if_pos (by omega), if_neg (by omega), if_pos (by omega), if_pos h1, if_pos h1]
    · by_cases h2 : i = off + n
      · subst h2
        rw [if_pos (by omega), if_pos (by omega), if_pos (by omega), if_pos rfl, if_pos (by omega), if_pos (by omega), if_neg (by omega), if_pos (by omega)]
      · by_cases h3 : i < off + n + 1 + vs.length
        · rw [if_pos (by omega), if_neg (by omega), if_pos (by omega), if_neg (by omega), if_neg (by omega)]
          congr 1
        · rw [if_neg (by omega), if_neg (by omega), if_neg (by omega)]
          congr 1; omega

theorem fill_row {place : Nat → Option (Nat × Nat)} {cells : Array Value} {i off size : Nat} {v : Value} {rest : List (Nat × Value)} (hp : place i = some (off, size)) (hs : v.cells.size = size) (hb : off + size ≤ cells.size) :
    Instr.fill place cells ((i, v) :: rest) = Instr.fill place (cells.toList.take off ++ v.cells.toList ++ cells.toList.drop (off + size)).toArray rest := by
  have h := lay_row v.cells.toList off 0 cells (by simp; omega)
  rw [Instr.fill, hp]
  dsimp only
  rw [if_neg (by simp [hs]; omega)]
  congr 1
  apply Array.ext'
  rw [List.toList_toArray, ← hs]
  rw [Nat.add_zero, Array.length_toList] at h
  rw [← h]
  congr 1
  rw [← Array.foldl_toList]
  congr 1
  simp

theorem fill_one {place : Nat → Option (Nat × Nat)} {L : List Value} {i off : Nat} {v : Value} {rest : List (Nat × Value)} (hp : place i = some (off, 1)) (hs : v.cells = #[v]) (hb : off < L.length) :
    Instr.fill place L.toArray ((i, v) :: rest) = Instr.fill place (L.set off v).toArray rest := by
  rw [Instr.fill, hp]
  dsimp only
  rw [hs, if_neg (by simp; omega)]
  simp

def places53 : List (Nat × Nat) := [(0, 64), (64, 1), (65, 1), (66, 1), (67, 1), (68, 1)]
def zr5 : List Value := [.int .i64 0, .int .i64 0, .int .i64 0, .int .i64 0, .int .i64 0]
set_option maxRecDepth 100000 in
theorem built53 (parts : List (Nat × Value)) : Tryz.prog.built 48 parts = Instr.fill (places53.toArray[·]?) (ivs zr64 ++ zr5).toArray parts := by
  unfold Program.built
  rfl

theorem set5 {A : List Value} (hA : A.length = 64) (a b c d e : Value) :
    (((((A ++ zr5).set 64 a).set 65 b).set 66 c).set 67 d).set 68 e = A ++ [a, b, c, d, e] := by
  unfold zr5
  rw [List.set_append_right _ _ (by omega), List.set_append_right _ _ (by omega), List.set_append_right _ _ (by omega), List.set_append_right _ _ (by omega), List.set_append_right _ _ (by omega), hA]
  rfl

theorem fill5 {A : List Value} (hA : A.length = 64) (a b c d e : Int) :
    Instr.fill (places53.toArray[·]?) (A ++ zr5).toArray [(1, .int .i64 a), (2, .int .i64 b), (3, .int .i64 c), (4, .int .i64 d), (5, .int .i64 e)] = some (A ++ ivs [a, b, c, d, e]).toArray := by
  have h5 : zr5.length = 5 := rfl
  rw [fill_one (off := 64) rfl rfl (by simp [hA, h5])]
  rw [fill_one (off := 65) rfl rfl (by simp [hA, h5])]
  rw [fill_one (off := 66) rfl rfl (by simp [hA, h5])]
  rw [fill_one (off := 67) rfl rfl (by simp [hA, h5])]
  rw [fill_one (off := 68) rfl rfl (by simp [hA, h5])]
  rw [set5 hA]
  rfl

theorem ivs_app (A B : List Int) : ivs (A ++ B) = ivs A ++ ivs B := by simp [ivs]

theorem built53_full {L : List Int} (hl : L.length = 64) (a b c d e : Int) :
    Tryz.prog.built 48 [(0, .agg (ivs L).toArray), (1, .int .i64 a), (2, .int .i64 b), (3, .int .i64 c), (4, .int .i64 d), (5, .int .i64 e)] = some (ivs (stL L a b c d e)).toArray := by
  have hL : (ivs L).length = 64 := by rw [ivs_length, hl]
  have hz : (ivs zr64).length = 64 := by rw [ivs_length, zr64_len]
  have h5 : zr5.length = 5 := rfl
  rw [built53]
  rw [fill_row (off := 0) (size := 64) rfl (by simp [Value.cells, hL]) (by simp [hz, h5])]
  have e1 : ((ivs zr64 ++ zr5).toArray.toList.take 0 ++ (Value.agg (ivs L).toArray).cells.toList ++ (ivs zr64 ++ zr5).toArray.toList.drop (0 + 64)) = ivs L ++ zr5 := by
    rw [List.take_zero, List.nil_append, List.toList_toArray, Nat.zero_add, List.drop_append_of_le_length (by omega), List.drop_of_length_le (by omega), List.nil_append]
    rfl
  rw [e1, fill5 hL, ← ivs_app]
  rfl

theorem built53_five (a b c d e : Int) :
    Tryz.prog.built 48 [(1, .int .i64 a), (2, .int .i64 b), (3, .int .i64 c), (4, .int .i64 d), (5, .int .i64 e)] = some (ivs (stL zr64 a b c d e)).toArray := by
  rw [built53, fill5 (by rw [ivs_length, zr64_len]), ← ivs_app]
  rfl

end Go.Proofs.YtdmlamnonbmboaaGreatDoor

namespace Go.Proofs.YtdmlamnonbmboaaGreatDoor
open Go.RowKit Go.Shelf
set_option maxRecDepth 20000

/-- A position, as numbers. -/
structure Ps where
  Z : List Int
  t : Nat
  k : Nat
  e : Int
  h : Nat
  f : Nat
def MayP (p : Ps) : Prop := MayC p.Z (p.t : Nat) (p.k : Nat) p.e (p.h : Nat) (p.f : Nat)

def anN (a b : Nat) : Nat := a &&& (15 ^^^ b)
theorem tab_an : ((List.range 16).all fun a => (List.range 16).all fun b => bits BinOp.andNot IntKind.i64 (a : Int) (b : Int) == ((anN a b : Nat) : Int)) = true := by decide +kernel
theorem bits_an {a b : Nat} (ha : a < 16) (hb : b < 16) : bits BinOp.andNot IntKind.i64 (a : Int) (b : Int) = ((anN a b : Nat) : Int) := beq_iff_eq.1 (allN (allN tab_an ha) hb)
theorem tab_anb : ((List.range 16).all fun a => (List.range 16).all fun b => decide (anN a b < 16) && (List.range 4).all fun i => bitB ((anN a b : Nat) : Int) i == (bitB ((a : Nat) : Int) i && !(b.testBit i))) = true := by decide +kernel
theorem an_lt {a b : Nat} (ha : a < 16) (hb : b < 16) : anN a b < 16 := by
  have := allN (allN tab_anb ha) hb
  simp only [Bool.and_eq_true, decide_eq_true_eq] at this
  exact this.1
theorem an_bit {a b i : Nat} (ha : a < 16) (hb : b < 16) (hi : i < 4) : bitB ((anN a b : Nat) : Int) i = (bitB ((a : Nat) : Int) i && !(b.testBit i)) := by
  have := allN (allN tab_anb ha) hb
  simp only [Bool.and_eq_true, decide_eq_true_eq] at this
  exact beq_iff_eq.1 (allN this.2 hi)

theorem lsN_bit (x q : Nat) : ∀ n i, i < n → (lsN x q n).testBit i = lsB x q i
  | 0, i, h => by omega
  | n + 1, i, h => by
    rw [lsN, Nat.testBit_or]
    by_cases e : i = n
    · subst e
      have h1 := lsN_lt x q i
      rw [Nat.testBit_lt_two_pow h1]
      cases lsB x q i with
      | true => simp [Nat.testBit_two_pow_self]
      | false => simp
    · rw [lsN_bit x q n i (by omega)]
      have : (if lsB x q n = true then 2 ^ n else 0).testBit i = false := by
        split
        · rw [Nat.testBit_two_pow]; simp; omega
        · simp
      rw [this, Bool.or_false]
theorem ls_lt (x q : Nat) : lsN x q 4 < 16 := lsN_lt x q 4

/-- Half moves and full moves behind a move. -/
def hfN (Z : List Int) (h x q : Nat) : Nat := if (zg Z x).natAbs = 1 ∨ zg Z q ≠ 0 then 0 else min (h + 1) 999
def fuN (t f : Nat) : Nat := if t = 1 then min (f + 1) 999 else f
/-- What a move makes of a position. -/
def nxP (p : Ps) (m : Nat × Nat × Nat) : Ps := ⟨mvZ p.Z p.t p.e m.1 m.2.1 m.2.2, 1 - p.t, anN p.k (lsN m.1 m.2.1 4), psI p.Z p.t m.1 m.2.1, hfN p.Z p.h m.1 m.2.1, fuN p.t p.f⟩
/-- The place of a side's king. -/
def kf (Z : List Int) (t : Nat) : Nat := ((List.range 64).find? fun q => zg Z q == pc t 6).getD 0
theorem kf_at {Z : List Int} {t K : Nat} (h : KgAt Z t K) : kf Z t = K := by
  have hx : (List.range 64).find? (fun q => zg Z q == pc t 6) = some K := by
    rw [List.find?_eq_some_iff_getElem]
    refine ⟨beq_iff_eq.2 ((h.2 K h.1).2 rfl), K, by simpa using h.1, by simp, ?_⟩
    intro j hj
    simp only [List.getElem_range, Bool.not_eq_true', beq_eq_false_iff_ne, ne_eq]
    intro e
    have := (h.2 j (by have := h.1; omega)).1 e
    omega
  unfold kf; rw [hx]; rfl
theorem kf_kg {Z : List Int} (hS : Std Z) (t : Nat) : KgAt Z t (kf Z t) := by
  obtain ⟨K, hK⟩ := hS.kgAt t
  rw [kf_at hK]; exact hK
def mvs (p : Ps) : List (Nat × Nat × Nat) := mvP p.Z p.t (p.k : Nat) p.e (kf p.Z p.t)

theorem MayP.t1 {p : Ps} (h : MayP p) : p.t ≤ 1 := by have := h.2.1; omega
theorem MayP.k15 {p : Ps} (h : MayP p) : p.k ≤ 15 := by have := h.2.2.1.2.1; omega
theorem MayP.h9 {p : Ps} (h : MayP p) : p.h ≤ 999 := by have := h.2.2.2.2.2.1; omega
theorem MayP.f9 {p : Ps} (h : MayP p) : 1 ≤ p.f ∧ p.f ≤ 999 := by have := h.2.2.2.2.2.2; omega
theorem MayP.st {p : Ps} (h : MayP p) : Std p.Z := h.1
theorem MayP.cas {p : Ps} (h : MayP p) : Cas p.Z (p.k : Nat) := h.2.2.1
theorem MayP.pas {p : Ps} (h : MayP p) : Pas p.Z (p.t : Nat) p.e := h.2.2.2.1

/-- What is known of a move. -/
structure MvOk (p : Ps) (m : Nat × Nat × Nat) : Prop where
  f : m.1 < 64
  q : m.2.1 < 64
  own : ownB p.Z p.t m.1 = true
  tg : tgB p.Z p.t (p.k : Nat) p.e m.1 m.2.1 = true
  inn : m.2.2 ∈ inB p.Z m.1 m.2.1

theorem mfL_ok {Z : List Int} {t : Nat} {k e : Int} {x : Nat} {m : Nat × Nat × Nat} (h : m ∈ mfL Z t k e x) : m.1 = x ∧ m.2.1 < 64 ∧ tgB Z t k e x m.2.1 = true ∧ m.2.2 ∈ inB Z x m.2.1 := by
  unfold mfL at h
  rw [List.mem_flatMap] at h
  obtain ⟨q, hq, hm⟩ := h
  rw [List.mem_map] at hm
  obtain ⟨n, hn, rfl⟩ := hm
  rw [List.mem_filter, List.mem_range] at hq
  exact ⟨rfl, hq.1, hq.2, hn⟩
theorem mvs_ok {p : Ps} {m : Nat × Nat × Nat} (hM : MayP p) (h : m ∈ mvs p) : MvOk p m ∧ exB p.Z p.t p.e (kf p.Z p.t) m.1 m.2.1 m.2.2 = false := by
  unfold mvs mvP at h
  rw [List.mem_flatMap] at h
  obtain ⟨f, hf, hm⟩ := h
  rw [List.mem_filter] at hm hf
  obtain ⟨h1, h2, h3, h4⟩ := mfL_ok hm.1
  have hfl := List.mem_range.1 hf.1
  have hk := hm.2
  rw [← h1] at hf h3 h4 hfl
  refine ⟨⟨hfl, h2, hf.2, h3, h4⟩, ?_⟩
  unfold keepB at hk
  rw [Bool.or_eq_true] at hk
  rcases hk with hk | hk
  · exact fr_ok hM.t1 hM.st hM.pas (kf_kg hM.st p.t) hfl h2 hf.2 h3 h4 hk
  · simpa using hk

/-- BEHIND EACH MOVE THE POSITION MAY BE. -/
theorem may_nx {p : Ps} {m : Nat × Nat × Nat} (hM : MayP p) (h : m ∈ mvs p) : MayP (nxP p m) := by
  obtain ⟨hO, hx⟩ := mvs_ok hM h
  have k16 : p.k < 16 := by have := hM.k15; omega
  refine may_after (k' := ((anN p.k (lsN m.1 m.2.1 4) : Nat) : Int)) (h' := ((hfN p.Z p.h m.1 m.2.1 : Nat) : Int)) (fl' := ((fuN p.t p.f : Nat) : Int)) hM (kf_kg hM.st p.t) hO.f hO.q hO.own hO.tg hO.inn hx (by omega) ?_ ?_ ?_ ?_
  · have := an_lt k16 (ls_lt m.1 m.2.1); omega
  · intro i hi hb
    rw [an_bit k16 (ls_lt m.1 m.2.1) hi, lsN_bit _ _ _ _ hi] at hb
    simp only [Bool.and_eq_true, Bool.not_eq_true', lsB, Bool.or_eq_false_iff, beq_eq_false_iff_ne] at hb
    exact ⟨hb.1, hb.2.1.1, hb.2.1.2, hb.2.2⟩
  · refine ⟨by omega, ?_⟩
    unfold hfN; split <;> omega
  · have := hM.f9
    unfold fuN; split <;> omega

theorem inB_len (Z : List Int) (f q : Nat) : (inB Z f q).length ≤ 4 := by unfold inB; split <;> simp
theorem flat_len {α β : Type} (g : α → List β) (n : Nat) : ∀ L : List α, (∀ a ∈ L, (g a).length ≤ n) → (L.flatMap g).length ≤ L.length * n
  | [], _ => by simp
  | a :: r, h => by
    have h1 := flat_len g n r (fun b hb => h b (by simp [hb]))
    have h2 := h a (by simp)
    rw [List.flatMap_cons, List.length_append, List.length_cons, Nat.succ_mul]
    omega
theorem range_filter_len (p : Nat → Bool) (n : Nat) : ((List.range n).filter p).length ≤ n := Nat.le_trans (List.length_filter_le _ _) (by simp)
theorem mfL_len (Z : List Int) (t : Nat) (k e : Int) (x : Nat) : (mfL Z t k e x).length ≤ 256 := by
  have := flat_len (fun q => (inB Z x q).map fun n => (x, q, n)) 4 ((List.range 64).filter (tgB Z t k e x)) (fun q _ => by rw [List.length_map]; exact inB_len Z x q)
  have h2 := range_filter_len (tgB Z t k e x) 64
  unfold mfL
  omega
theorem mvs_len (p : Ps) : (mvs p).length ≤ 16384 := by
  have := flat_len (fun f => (mfL p.Z p.t (p.k : Nat) p.e f).filter (keepB p.Z p.t p.e (kf p.Z p.t))) 256 ((List.range 64).filter (ownB p.Z p.t)) (fun f _ => Nat.le_trans (List.length_filter_le _ _) (mfL_len _ _ _ _ _))
  have h2 := range_filter_len (ownB p.Z p.t) 64
  unfold mvs mvP
  omega

/-- How many rows of so many moves there are; sums wrap around. -/
def cnP : Nat → Ps → Int
  | 0, _ => 1
  | n + 1, p => (mvs p).foldl (fun s m => IntKind.i64.wrap (s + cnP n (nxP p m))) 0

end Go.Proofs.YtdmlamnonbmboaaGreatDoor
