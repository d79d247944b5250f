/-
  Boards and ways as the program holds them, in memory; the small functions on them, walked. No conditions beyond those that each theorem bears.
-/
import Derived.Test.YtnbaangnpoblfaaDoorEa
import Derived.Deep.LoopGhost
namespace Go.Proofs.YtnbaangnpoblfaaDoor
open Go.RowKit

/-- A block of values, one cell each. -/
def Vb (w : World) (b t : Nat) (L : List Value) : Prop := w.heap[b]? = some (.cells L.toArray t (0, 0))

section
variable {w w' : World} {b t : Nat} {L : List Value}
theorem Vb.cell (h : Vb w b t L) {i : Nat} {v : Value} (hv : L[i]? = some v) : w.cell? ⟨b, i, none⟩ = some v := by
  have h' : w.heap[b]? = _ := h
  simp [World.cell?, h', hv]
theorem Vb.frozen (h : Vb w b t L) (i : Nat) : w.frozen? ⟨b, i, none⟩ = false := by
  have h' : w.heap[b]? = _ := h
  simp [World.frozen?, h']
theorem Vb.set (h : Vb w b t L) (i : Nat) (x : Value) : Vb (w.setCell ⟨b, i, none⟩ x) b t (L.set i x) := by
  have h' : w.heap[b]? = _ := h
  simp [Vb, World.setCell, Array.getElem?_modify, h']
theorem Vb.lt (h : Vb w b t L) : b < w.heap.size := (Array.getElem?_eq_some_iff.1 h).1
theorem Vb.keeps {X : Nat → Prop} (h : Vb w b t L) (hk : Keeps X w w') (hb : ¬ X b) : Vb w' b t L := (hk.block b h.lt hb).trans h
theorem Vb.below {B : Nat} (h : Vb w b t L) (hk : Below B w w') (hb : b < B) : Vb w' b t L := (hk.block b hb).trans h
theorem Vb.mono (h : Vb w b t L) (hk : Below w.heap.size w w') : Vb w' b t L := h.below hk h.lt
theorem Vb.old (h : Vb w b t L) (o : Obj) : Vb (w.alloc o) b t L := (Below.heap_alloc w o b h.lt).trans h
theorem Vb.other {g : Nat} (h : Vb w b t L) (hb : b ≠ g) (i : Nat) (v : Value) : Vb (w.setCell ⟨g, i, none⟩ v) b t L := h.keeps (Keeps.set1 w g i v) hb
theorem Vb.range (h : Vb w b t L) : w.rangeAt b 0 L := fun j v hv => by rw [Nat.zero_add]; exact h.cell hv
end
theorem Vb.new (w : World) (t : Nat) (L : List Value) : Vb (w.alloc (.cells L.toArray t)) w.heap.size t L := heap_alloc_new w _

/-- A board as the mover sees it, as a value. -/
def bdL (b : Bm) : List Value := [.int .u64 (b.own : Nat), .int .u64 (b.oth : Nat), .int .u64 (b.kin : Nat), .int .i64 (b.mov : Nat)]
abbrev bdA (o t k : Nat) (m : Nat) : Array Value := #[.int .u64 (o : Nat), .int .u64 (t : Nat), .int .u64 (k : Nat), .int .i64 (m : Nat)]
theorem bdL_arr (b : Bm) : (bdL b).toArray = bdA b.own b.oth b.kin b.mov := rfl

def pad (W : List Nat) : List Nat := W ++ List.replicate (13 - W.length) 0
/-- A way as a value. -/
def wyL (W : List Nat) (ov : Nat) : List Value := (pad W).map (fun m => Value.int .u64 (m : Nat)) ++ [.int .i64 (W.length : Nat), .int .u64 (ov : Nat)]

theorem pad_len {W : List Nat} (h : W.length ≤ 13) : (pad W).length = 13 := by simp [pad]; omega
theorem wyL_len {W : List Nat} {ov : Nat} (h : W.length ≤ 13) : (wyL W ov).length = 15 := by simp [wyL, pad_len h]
theorem pad_at {W : List Nat} {i : Nat} (hi : i < W.length) : (pad W)[i]? = some (W.getD i 0) := by
  unfold pad; rw [List.getElem?_append_left hi]; simp [List.getD, hi]
theorem wy_at {W : List Nat} {ov i : Nat} (h : W.length ≤ 13) (hi : i < W.length) : (wyL W ov)[i]? = some (.int .u64 (W.getD i 0 : Nat)) := by
  unfold wyL
  rw [List.getElem?_append_left (by rw [List.length_map, pad_len h]; omega), List.getElem?_map, pad_at hi]
  rfl
theorem wy_at0 {W : List Nat} {ov i : Nat} (h : W.length ≤ 13) (hi : i < 13) : ∃ m : Nat, (wyL W ov)[i]? = some (.int .u64 m) := by
  unfold wyL
  have hp : i < (pad W).length := by rw [pad_len h]; exact hi
  rw [List.getElem?_append_left (by rw [List.length_map]; exact hp), List.getElem?_map, List.getElem?_eq_getElem hp]
  exact ⟨_, rfl⟩
theorem wy_long {W : List Nat} {ov : Nat} (h : W.length ≤ 13) : (wyL W ov)[13]? = some (.int .i64 (W.length : Nat)) := by
  unfold wyL
  rw [List.getElem?_append_right (by rw [List.length_map, pad_len h]; exact Nat.le_refl _), List.length_map, pad_len h]
  rfl
theorem wy_over {W : List Nat} {ov : Nat} (h : W.length ≤ 13) : (wyL W ov)[14]? = some (.int .u64 (ov : Nat)) := by
  unfold wyL
  rw [List.getElem?_append_right (by rw [List.length_map, pad_len h]; omega), List.length_map, pad_len h]
  rfl
theorem pad_set {W : List Nat} (h : W.length ≤ 12) (tz : Nat) : (pad W).set W.length tz = pad (W ++ [tz]) := by
  unfold pad
  rw [List.set_append_right _ _ (Nat.le_refl _), Nat.sub_self, List.length_append, List.length_singleton, show 13 - W.length = (13 - (W.length + 1)) + 1 by omega, List.replicate_succ]
  simp
theorem wy_on {W : List Nat} {ov tz nv : Nat} (h : W.length ≤ 12) : (((wyL W ov).set W.length (.int .u64 (tz : Nat))).set 13 (.int .i64 ((W.length + 1 : Nat) : Int))).set 14 (.int .u64 (nv : Nat)) = wyL (W ++ [tz]) nv := by
  unfold wyL
  have hp : (pad W).length = 13 := pad_len (by omega)
  have h1 : ((pad W).map (fun m : Nat => Value.int .u64 (m : Nat))).set W.length (.int .u64 (tz : Nat)) = (pad (W ++ [tz])).map (fun m : Nat => Value.int .u64 (m : Nat)) := by
    rw [← pad_set h, List.map_set]
  have h2 : ((pad (W ++ [tz])).map (fun m : Nat => Value.int .u64 (m : Nat))).length = 13 := by rw [List.length_map]; exact pad_len (by simp; omega)
  rw [List.set_append_left _ _ (by rw [List.length_map, hp]; omega), h1, List.set_append_right _ _ (by rw [h2]; exact Nat.le_refl _), h2, List.set_append_right _ _ (by rw [h2]; omega), h2]
  simp

theorem wyL_one (W : List Nat) (ov : Nat) : ∀ u ∈ wyL W ov, u.oneCell' = true := by
  intro u hu
  unfold wyL at hu
  rcases List.mem_append.1 hu with hu | hu
  · obtain ⟨m, _, rfl⟩ := List.mem_map.1 hu; rfl
  · simp at hu; rcases hu with rfl | rfl <;> rfl

theorem size60 : (Tryd.prog.info? 60).map (·.size) = some 4 := by kernel_rfl
theorem size65 : (Tryd.prog.info? 65).map (·.size) = some 15 := by kernel_rfl
theorem size105 : (Tryd.prog.info? 105).map (·.size) = some 4 := by kernel_rfl

theorem wpList_load_bd {ops : Array Oper} {rest : List Oper} {op : Oper} {a : Act} {w : World} {Q : Exit → Act → World → Prop} (hw : Region.wanted op (yielded ops a.tmps) = true) (x : Operand) (ho : op.op = .load 60 x)
    (g : Nat) (hx : a.eval x = .pointer (some ⟨g, 0, none⟩)) {b : Bm} (hc : Vb w g 60 (bdL b))
    (h : wpList Tryd.prog ops Q rest (a.put op.dst (.agg (bdL b).toArray)) w) : wpList Tryd.prog ops Q (op :: rest) a w :=
  wpList_wanted hw fun _ hK => wp_load_row 60 x ho g hx 60 _ (0, 0) _ hc Tryd.underlying60 rfl size60 (hK _ _ h)

theorem wpList_load_wy {ops : Array Oper} {rest : List Oper} {op : Oper} {a : Act} {w : World} {Q : Exit → Act → World → Prop} (hw : Region.wanted op (yielded ops a.tmps) = true) (x : Operand) (ho : op.op = .load 65 x)
    (g : Nat) (hx : a.eval x = .pointer (some ⟨g, 0, none⟩)) {W : List Nat} {ov : Nat} (hW : W.length ≤ 13) (hc : Vb w g 65 (wyL W ov))
    (h : wpList Tryd.prog ops Q rest (a.put op.dst (.agg (wyL W ov).toArray)) w) : wpList Tryd.prog ops Q (op :: rest) a w :=
  wpList_wanted hw fun _ hK => wp_load_row 65 x ho g hx 65 _ (0, 0) _ hc Tryd.underlying65 rfl (by rw [List.size_toArray, wyL_len hW]; exact size65) (hK _ _ h)

theorem wpList_store_vb {ops : Array Oper} {rest : List Oper} {o : Oper} {a : Act} {w : World} {Q : Exit → Act → World → Prop} (hgd : o.guard = none) (t : Nat) (x y : Operand) (ho : o.op = .store t x y)
    (g : Nat) (L M : List Value) (hx : a.eval x = .pointer (some ⟨g, 0, none⟩)) (hy : a.eval y = .agg L.toArray) (hb : Vb w g t M) (hl : M.length = L.length) (hs : (Tryd.prog.info? t).map (·.size) = some L.length) (h1 : ∀ u ∈ L, u.oneCell' = true)
    (h : ∀ w', Vb w' g t L → Keeps (fun k => k = g) w w' → wpList Tryd.prog ops Q rest (a.put o.dst undef) w') : wpList Tryd.prog ops Q (o :: rest) a w := by
  refine wpList_plain hgd fun _ hK => ?_
  have hb' : w.heap[g]? = _ := hb
  refine wp_store_row t x y ho g L.toArray hx hy t M.toArray hb' (by rw [List.size_toArray]; exact hs) (by simp [hl]) (by simpa using h1) ?_
  refine hK _ _ (h _ ?_ ?_)
  · simp [Vb, World.setRow, Array.getElem?_modify, hb']
  · exact ⟨rfl, rfl, rfl, by simp [World.setRow], fun k _ hk => by simp [World.setRow, Array.getElem?_modify, show ¬ g = k from fun e => hk e.symm]⟩

theorem bdL_one (b : Bm) : ∀ u ∈ bdL b, u.oneCell' = true := by
  intro u hu
  simp [bdL] at hu
  rcases hu with rfl | rfl | rfl | rfl <;> rfl

theorem results_bd {fn : Func} {t : Tmp} (h : fn.results = #[.cell t 60]) (tmps : Array Value) (w : World) (g : Nat) (hb : tmps.getD t undef = .pointer (some ⟨g, 0, none⟩)) {b : Bm} (hr : Vb w g 60 (bdL b)) :
    (results fn tmps).run Tryd.prog w = .ok (.agg (bdL b).toArray) w :=
  results_cell_row h tmps w g 60 _ (0, 0) _ hb hr Tryd.underlying60 rfl size60
theorem results_wy {fn : Func} {t : Tmp} (h : fn.results = #[.cell t 65]) (tmps : Array Value) (w : World) (g : Nat) (hb : tmps.getD t undef = .pointer (some ⟨g, 0, none⟩)) {W : List Nat} {ov : Nat} (hW : W.length ≤ 13) (hr : Vb w g 65 (wyL W ov)) :
    (results fn tmps).run Tryd.prog w = .ok (.agg (wyL W ov).toArray) w :=
  results_cell_row h tmps w g 65 _ (0, 0) _ hb hr Tryd.underlying65 rfl (by rw [List.size_toArray, wyL_len hW]; exact size65)

/-- The table of directions. -/
def shi (d : Nat) : Int := if d = 0 then -5 else if d = 1 then -4 else if d = 2 then 4 else 5
def dirV : List Value := [.int .i64 (-5), .int .i64 (-4), .int .i64 4, .int .i64 5]
def DTab (w : World) : Prop := w.rangeAt 0 0 dirV
theorem DTab.lt {w : World} (h : DTab w) : 0 < w.heap.size := World.block_lt_of_cell? w _ (h 0 _ rfl)
theorem DTab.below {w w' : World} {B : Nat} (h : DTab w) (hb : Below B w w') (hB : 0 < B) : DTab w' := fun j v hv => by
  have := h j v hv
  rw [Nat.zero_add] at this ⊢
  exact (hb.cell (p := ⟨0, j, none⟩) hB).trans this
theorem DTab.mono {w w' : World} (h : DTab w) (hb : Below w.heap.size w w') : DTab w' := h.below hb h.lt
theorem DTab.keeps {X : Nat → Prop} {w w' : World} (h : DTab w) (hk : Keeps X w w') (hX : ¬ X 0) : DTab w' := fun j v hv => hk.cell (h j v hv) hX
theorem run_dir (k : Nat) (hk : k < 4) (w : World) : (Instr.index 105 (.agg dirV.toArray) (.int .i64 k)).run Tryd.prog w = .ok (.int .i64 (shi k)) w := by
  match k, hk with
  | 0, _ => simp [Instr.index, Tryd.underlying105, run_underlying, asIntOf, part, go_sem, dirV, shi]
  | 1, _ => simp [Instr.index, Tryd.underlying105, run_underlying, asIntOf, part, go_sem, dirV, shi]
  | 2, _ => simp [Instr.index, Tryd.underlying105, run_underlying, asIntOf, part, go_sem, dirV, shi]
  | 3, _ => simp [Instr.index, Tryd.underlying105, run_underlying, asIntOf, part, go_sem, dirV, shi]

theorem and_nat {a b : Nat} (ha : a < 2 ^ 64) (hb : b < 2 ^ 64) : bits BinOp.and IntKind.u64 (a : Int) (b : Int) = ((a &&& b : Nat) : Int) := u64_and_nat a b (by rw [p64] at ha; exact ha) (by rw [p64] at hb; exact hb)
theorem or_nat {a b : Nat} (ha : a < 2 ^ 64) (hb : b < 2 ^ 64) : bits BinOp.or IntKind.u64 (a : Int) (b : Int) = ((a ||| b : Nat) : Int) := u64_or_nat a b (by rw [p64] at ha; exact ha) (by rw [p64] at hb; exact hb)
theorem anot_nat {a b : Nat} (ha : a < 2 ^ 64) (hb : b < 2 ^ 64) : bits BinOp.andNot IntKind.u64 (a : Int) (b : Int) = ((anot a b : Nat) : Int) := by
  rw [u64_andNot_nat a b (by rw [p64] at ha; exact ha) (by rw [p64] at hb; exact hb)]
  congr 1
  apply Nat.eq_of_testBit_eq
  intro i
  rw [Nat.testBit_and, tb_anot, show (18446744073709551615 : Nat) - b = 2 ^ 64 - (b + 1) by omega, Nat.testBit_two_pow_sub_succ hb]
  by_cases hi : i < 64
  · simp [hi]
  · rw [Nat.testBit_lt_two_pow (Nat.lt_of_lt_of_le ha (Nat.pow_le_pow_right (by omega) (by omega)))]; rfl
theorem Sub.lt64 {x : Nat} (h : Sub x ALL) : x < 2 ^ 64 := Nat.lt_of_lt_of_le h.lt (Nat.pow_le_pow_right (by omega) (by omega))

/-- A step of a set, as package bits turns it. -/
theorem rot_step (p : Nat) (hp : Sub p ALL) (d : Nat) (hd : d < 4) : ∃ s : Nat, 1 ≤ s ∧ s ≤ 63 ∧ bits BinOp.and IntKind.u64 (IntKind.u64.wrap (shi d)) 63 = (s : Int) ∧ (p * 2 ^ s % 2 ^ 64 ||| p / 2 ^ (64 - s)) &&& ALL = stp d p := by
  have hlt := hp.lt
  have hi63 : ∀ i, ALL.testBit i = true → i < 36 := fun i hi => by
    rcases Nat.lt_or_ge i 36 with h | h
    · exact h
    · rw [Nat.testBit_lt_two_pow (Nat.lt_of_lt_of_le ALL_lt (Nat.pow_le_pow_right (by decide) h))] at hi; cases hi
  have key : ∀ (s i : Nat), (p * 2 ^ s % 2 ^ 64 ||| p / 2 ^ (64 - s)).testBit i = ((decide (i < 64) && (decide (s ≤ i) && p.testBit (i - s))) || p.testBit (i + (64 - s))) := by
    intro s i
    rw [Nat.testBit_or, Nat.testBit_mod_two_pow, Nat.testBit_div_two_pow, show p * 2 ^ s = p <<< s from (Nat.shiftLeft_eq p s).symm, Nat.testBit_shiftLeft]
  have hbig : ∀ j, 36 ≤ j → p.testBit j = false := fun j hj => Nat.testBit_lt_two_pow (Nat.lt_of_lt_of_le hlt (Nat.pow_le_pow_right (by decide) hj))
  match d, hd with
  | 0, _ =>
    refine ⟨59, by omega, by omega, by decide, ?_⟩
    apply Nat.eq_of_testBit_eq; intro i
    rw [Nat.testBit_and, key, tb_stp]
    cases hA : ALL.testBit i with
    | false => simp
    | true => have := hi63 i hA; simp [show ¬ 59 ≤ i by omega, Nat.add_comm]
  | 1, _ =>
    refine ⟨60, by omega, by omega, by decide, ?_⟩
    apply Nat.eq_of_testBit_eq; intro i
    rw [Nat.testBit_and, key, tb_stp]
    cases hA : ALL.testBit i with
    | false => simp
    | true => have := hi63 i hA; simp [show ¬ 60 ≤ i by omega, Nat.add_comm]
  | 2, _ =>
    refine ⟨4, by omega, by omega, by decide, ?_⟩
    apply Nat.eq_of_testBit_eq; intro i
    rw [Nat.testBit_and, key, tb_stp, hbig (i + (64 - 4)) (by omega)]
    cases hA : ALL.testBit i with
    | false => simp
    | true => have := hi63 i hA; simp [show i < 64 by omega]
  | 3, _ =>
    refine ⟨5, by omega, by omega, by decide, ?_⟩
    apply Nat.eq_of_testBit_eq; intro i
    rw [Nat.testBit_and, key, tb_stp, hbig (i + (64 - 5)) (by omega)]
    cases hA : ALL.testBit i with
    | false => simp
    | true => have := hi63 i hA; simp [show i < 64 by omega]

set_option maxHeartbeats 1000000 in
theorem step_any (d p : Nat) (hd : d < 4) (hp : Sub p ALL) (w : World) :
    Calls Tryd.prog 80 #[.int .u64 (p : Nat), .int .i64 (shi d)] w fun e w' => e = .returned (.int .u64 (stp d p : Nat)) ∧ w' = w := by
  obtain ⟨s, h1, h2, h3, h4⟩ := rot_step p hp d hd
  have HROT := hide (fun W => rot_any p s (shi d) hp.lt64 h3 h1 h2 W)
  obtain ⟨r, hr⟩ : ∃ r, p * 2 ^ s % 2 ^ 64 ||| p / 2 ^ (64 - s) = r := ⟨_, rfl⟩
  have hrb : r < 2 ^ 64 := by
    rw [← hr]
    exact Nat.or_lt_two_pow (Nat.mod_lt _ (Nat.two_pow_pos _)) (Nat.lt_of_le_of_lt (Nat.div_le_self _ _) hp.lt64)
  have e1 : bits BinOp.and IntKind.u64 (r : Int) 34292498175 = ((stp d p : Nat) : Int) := by
    rw [show (34292498175 : Int) = ((34292498175 : Nat) : Int) from rfl, and_nat hrb (by decide), ← h4, hr]; rfl
  rw [hr] at HROT
  generalize stp d p = S at *
  generalize shi d = K at *
  clear hr hp hd h4 h3
  go_enter Tryd.func80, Tryd.ntmps80
  go_wp2_with fail
  refine (HROT.out _).mono ?_
  rintro e w1 ⟨rfl, hw1⟩
  subst w1
  go_wp2
  go_ret
  exact ⟨rfl, rfl⟩

theorem shi_neg (d : Nat) (hd : d < 4) : decide (shi d < 0) = decide (d < 2) := by
  match d, hd with
  | 0, _ => rfl
  | 1, _ => rfl
  | 2, _ => rfl
  | 3, _ => rfl

set_option maxHeartbeats 1000000 in
theorem goers_any (b : Bm) (hb : BOk b) (d : Nat) (hd : d < 4) (w : World) :
    Calls Tryd.prog 79 #[.agg (bdL b).toArray, .int .i64 (shi d)] w fun e w' => e = .returned (.int .u64 (b.goe d : Nat)) ∧ Below w.heap.size w w' := by
  have hg : b.goe d = if decide (d < 2) = decide (b.mov = 1) then b.own else b.own &&& b.kin := rfl
  have hs := shi_neg d hd
  have ha := and_nat hb.own.lt64 hb.kin.lt64
  have hm := hb.mov
  obtain ⟨o, t, k, m⟩ := b
  rw [hg, ← hs]
  dsimp only at *
  generalize shi d = K at *
  clear hg hs hb hd
  generalize o &&& k = OK at *
  rw [bdL_arr]
  dsimp only
  have hB : Below w.heap.size w (w.alloc (.cells (bdA o t k m) 60)) := (Below.refl _ _).alloc (Nat.le_refl _) _
  have HB := hide hB
  obtain ⟨G, hG⟩ : ∃ G, (if decide (K < 0) = decide (m = 1) then o else OK) = G := ⟨_, rfl⟩
  rw [hG]
  clear hB
  by_cases h1 : K < 0
  · rcases hm with rfl | rfl
    · obtain rfl : o = G := by rw [← hG]; simp [h1]
      clear hG
      go_enter Tryd.func79, Tryd.ntmps79
      go_wp2
      go_ret
      exact ⟨rfl, HB.out⟩
    · obtain rfl : OK = G := by rw [← hG]; simp [h1]
      clear hG
      go_enter Tryd.func79, Tryd.ntmps79
      go_wp2
      go_ret
      exact ⟨rfl, HB.out⟩
  · rcases hm with rfl | rfl
    · obtain rfl : OK = G := by rw [← hG]; simp [h1]
      clear hG
      go_enter Tryd.func79, Tryd.ntmps79
      go_wp2
      go_ret
      exact ⟨rfl, HB.out⟩
    · obtain rfl : o = G := by rw [← hG]; simp [h1]
      clear hG
      go_enter Tryd.func79, Tryd.ntmps79
      go_wp2
      go_ret
      exact ⟨rfl, HB.out⟩

set_option maxHeartbeats 1000000 in
theorem empty_any (b : Bm) (hb : BOk b) (w : World) :
    Calls Tryd.prog 81 #[.agg (bdL b).toArray] w fun e w' => e = .returned (.int .u64 (b.emp : Nat)) ∧ Below w.heap.size w w' := by
  have hg : b.emp = anot 34292498175 (b.own ||| b.oth) := rfl
  have ha := or_nat hb.own.lt64 hb.oth.lt64
  have hc : bits BinOp.andNot IntKind.u64 (34292498175 : Int) ((b.own ||| b.oth : Nat) : Int) = ((b.emp : Nat) : Int) := by
    rw [show (34292498175 : Int) = ((34292498175 : Nat) : Int) from rfl, anot_nat (by decide) (hb.own.or hb.oth).lt64]; rfl
  generalize b.emp = E at *
  rw [bdL_arr]
  obtain ⟨o, t, k, m⟩ := b
  dsimp only at *
  clear hg hb
  generalize o ||| t = OT at *
  have hB : Below w.heap.size w (w.alloc (.cells (bdA o t k m) 60)) := (Below.refl _ _).alloc (Nat.le_refl _) _
  have HB := hide hB
  go_enter Tryd.func81, Tryd.ntmps81
  go_wp2
  go_ret
  exact ⟨rfl, HB.out⟩

theorem headD_getD (W : List Nat) : W.headD 0 = W.getD 0 0 := by cases W <;> rfl
theorem lastD_getD (W : List Nat) : W.getLastD 0 = W.getD (W.length - 1) 0 := by
  cases W with
  | nil => rfl
  | cons x W => simp [List.getLastD_eq_getLast?, List.getLast?_eq_getElem?, List.getD]

set_option maxHeartbeats 1000000 in
theorem first_any (W : List Nat) (ov : Nat) (h1 : 1 ≤ W.length) (h2 : W.length ≤ 13) (w : World) :
    Calls Tryd.prog 69 #[.agg (wyL W ov).toArray] w fun e w' => e = .returned (.int .u64 (W.headD 0 : Nat)) ∧ Below w.heap.size w w' := by
  obtain ⟨w1, hw1⟩ : ∃ w1, w.alloc (.cells (wyL W ov).toArray 65) = w1 := ⟨_, rfl⟩
  have HB : Hid (Below w.heap.size w w1) := hide (by rw [← hw1]; exact (Below.refl _ _).alloc (Nat.le_refl _) _)
  have V : Vb w1 w.heap.size 65 (wyL W ov) := by rw [← hw1]; exact Vb.new _ _ _
  have c0 := V.cell (wy_at h2 (show 0 < W.length by omega))
  rw [← headD_getD] at c0
  generalize W.headD 0 = F at *
  clear V
  generalize (wyL W ov).toArray = A at *
  go_enter Tryd.func69, Tryd.ntmps69
  go_wp2
  go_ret
  exact ⟨rfl, HB.out⟩

set_option maxHeartbeats 1000000 in
theorem last_any (W : List Nat) (ov : Nat) (h1 : 1 ≤ W.length) (h2 : W.length ≤ 13) (w : World) :
    Calls Tryd.prog 70 #[.agg (wyL W ov).toArray] w fun e w' => e = .returned (.int .u64 (W.getLastD 0 : Nat)) ∧ Below w.heap.size w w' := by
  obtain ⟨w1, hw1⟩ : ∃ w1, w.alloc (.cells (wyL W ov).toArray 65) = w1 := ⟨_, rfl⟩
  have HB : Hid (Below w.heap.size w w1) := hide (by rw [← hw1]; exact (Below.refl _ _).alloc (Nat.le_refl _) _)
  have V : Vb w1 w.heap.size 65 (wyL W ov) := by rw [← hw1]; exact Vb.new _ _ _
  have c0 := V.cell (wy_at h2 (show W.length - 1 < W.length by omega))
  have c1 := V.cell (wy_long (ov := ov) h2)
  rw [← lastD_getD] at c0
  generalize W.getLastD 0 = F at *
  obtain ⟨n, hn⟩ : ∃ n, W.length - 1 = n := ⟨_, rfl⟩
  have hn2 : ((W.length : Nat) : Int) - 1 = (n : Int) := by omega
  have hn3 : n ≤ 12 := by omega
  rw [hn] at c0
  clear V
  generalize W.length = q at *
  clear hn
  generalize (wyL W ov).toArray = A at *
  go_enter Tryd.func70, Tryd.ntmps70
  go_wp2
  go_ret
  exact ⟨rfl, HB.out⟩

end Go.Proofs.YtnbaangnpoblfaaDoor
