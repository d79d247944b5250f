/-
  four.Count: how many rows of so many drops there are from an empty board on. No conditions beyond those that each theorem bears.
-/
import Derived.Test.YtaglhmkjdajgpaaDoorCn
import Derived.Test.YtaglhmkjdajgpaaDoorFh
import Derived.Laws.EntriesVeiled
namespace Go.Proofs.YtaglhmkjdajgpaaDoor
open Go.RowKit

theorem cnS_all (g : Wp) (hg : g.Ok) (fb : Nat) (hfb : fb ≠ g.cb) : ∀ l, l ≤ 6 → CntOk g fb l
  | 0, _ => cnS_zero g fb
  | l + 1, h => cnS_succ g hg fb l hfb (by omega) (cnS_all g hg fb hfb l (by omega))

def zer (n : Nat) : List Int := List.replicate n 0
theorem zer_len (n : Nat) : (zer n).length = n := by simp [zer]
theorem zer_getD (n i : Nat) : (zer n).getD i 0 = 0 := by simp [zer, List.getD, List.getElem?_replicate]; split <;> rfl

theorem made_zer (n : Nat) : (madeCells #[Value.int .i64 0] n).toList = (zer n).map (Value.int .i64) := by
  rw [zer, List.map_replicate]
  apply List.ext_getElem
  · simp [madeCells]
  · intro i h1 h2
    simp [madeCells, Nat.mod_one]

theorem build24f (W H : Int) (a : Option Addr) (n c : Nat) (w : World) : (Instr.build 24 #[(0, .int .i64 W), (1, .int .i64 H), (2, .slice a n c)]).run Tryd.prog w = .ok (.agg (gdA W H a n c)) w := by
  simp [Instr.build, go_sem, run_underlying Tryd.underlying24]

theorem build54 (W H k : Int) (a : Option Addr) (n c : Nat) (w : World) : (Instr.build 54 #[(0, .agg (gdA W H a n c)), (1, .int .i64 k)]).run Tryd.prog w = .ok (.agg #[.int .i64 W, .int .i64 H, .slice a n c, .int .i64 k]) w := by
  simp [Instr.build, go_sem, run_underlying Tryd.underlying54]

/-- What Count asks of its numbers. -/
def cOk (w h k p : Int) : Prop := (1 ≤ w ∧ w ≤ 10) ∧ (1 ≤ h ∧ h ≤ 10) ∧ (1 ≤ k ∧ k ≤ 10) ∧ 0 ≤ p ∧ p ≤ 6

set_option maxHeartbeats 2000000 in
theorem Count_no (w h k p : Int) (W : World) (hno : ¬ cOk w h k p) :
    Calls Tryd.prog 20 #[.int .i64 w, .int .i64 h, .int .i64 k, .int .i64 p] W fun e W' => e = .returned (.tuple #[.int .i64 0, .int .i64 3]) ∧ W' = W := by
  by_cases hw : 1 ≤ w ∧ w ≤ 10
  rotate_left
  · have d1 : decide (1 ≤ w ∧ w ≤ 10) = false := decide_eq_false hw
    clear hno hw
    go_enter Tryd.func20, Tryd.ntmps20
    go_wp2_with fail
    refine (isSide_any w _).mono ?_
    rintro e wx ⟨rfl, hwx⟩
    subst wx
    rw [d1]
    go_wp2_with fail
    go_ret2
    exact ⟨rfl, rfl⟩
  have d1 : decide (1 ≤ w ∧ w ≤ 10) = true := decide_eq_true hw
  by_cases hh : 1 ≤ h ∧ h ≤ 10
  rotate_left
  · have d2 : decide (1 ≤ h ∧ h ≤ 10) = false := decide_eq_false hh
    clear hno hw hh
    go_enter Tryd.func20, Tryd.ntmps20
    go_wp2_with fail
    refine (isSide_any w _).mono ?_
    rintro e wx ⟨rfl, hwx⟩
    subst wx
    rw [d1]
    go_wp2_with fail
    refine (isSide_any h _).mono ?_
    rintro e wx ⟨rfl, hwx⟩
    subst wx
    rw [d2]
    go_wp2_with fail
    go_ret2
    exact ⟨rfl, rfl⟩
  have d2 : decide (1 ≤ h ∧ h ≤ 10) = true := decide_eq_true hh
  by_cases hk : 1 ≤ k ∧ k ≤ 10
  rotate_left
  · have d3 : decide (1 ≤ k ∧ k ≤ 10) = false := decide_eq_false hk
    clear hno hw hh hk
    go_enter Tryd.func20, Tryd.ntmps20
    go_wp2_with fail
    refine (isSide_any w _).mono ?_
    rintro e wx ⟨rfl, hwx⟩
    subst wx
    rw [d1]
    go_wp2_with fail
    refine (isSide_any h _).mono ?_
    rintro e wx ⟨rfl, hwx⟩
    subst wx
    rw [d2]
    go_wp2_with fail
    refine (isSide_any k _).mono ?_
    rintro e wx ⟨rfl, hwx⟩
    subst wx
    rw [d3]
    go_wp2_with fail
    go_ret2
    exact ⟨rfl, rfl⟩
  have d3 : decide (1 ≤ k ∧ k ≤ 10) = true := decide_eq_true hk
  have hp : p < 0 ∨ (0 ≤ p ∧ 6 < p) := by
    by_cases h0 : p < 0
    · exact Or.inl h0
    · by_cases h6 : 6 < p
      · exact Or.inr ⟨by omega, h6⟩
      · exact absurd ⟨hw, hh, hk, by omega, by omega⟩ hno
  clear hno hw hh hk
  rcases hp with h0 | ⟨h0, h6⟩
  all_goals
    go_enter Tryd.func20, Tryd.ntmps20
    go_wp2_with fail
    refine (isSide_any w _).mono ?_
    rintro e wx ⟨rfl, hwx⟩
    subst wx
    rw [d1]
    go_wp2_with fail
    refine (isSide_any h _).mono ?_
    rintro e wx ⟨rfl, hwx⟩
    subst wx
    rw [d2]
    go_wp2_with fail
    refine (isSide_any k _).mono ?_
    rintro e wx ⟨rfl, hwx⟩
    subst wx
    rw [d3]
    go_wp2_with fail
    go_ret2
    exact ⟨rfl, rfl⟩

theorem size54 : (Tryd.prog.info? 54).map (·.size) = some 4 := by kernel_rfl

theorem wpList_store_well {ops : Array Oper} {rest : List Oper} {o : Oper} {a : Act} {w : World} {Q : Exit → Act → World → Prop} (hgd : o.guard = none) (x y : Operand) (ho : o.op = .store 54 x y)
    (b : Nat) {W H k : Int} {ad : Option Addr} {n c : Nat} {c0 : Array Value} (hc0 : c0.size = 4) (hx : a.eval x = .pointer (some ⟨b, 0, none⟩)) (hy : a.eval y = .agg #[.int .i64 W, .int .i64 H, .slice ad n c, .int .i64 k]) (hb : w.heap[b]? = some (.cells c0 54 (0, 0)))
    (h : ∀ w', w'.heap[b]? = some (.cells #[.int .i64 W, .int .i64 H, .slice ad n c, .int .i64 k] 54 (0, 0)) → Keeps (fun k => k = b) w w' → wpList Tryd.prog ops Q rest (a.put o.dst undef) w') : wpList Tryd.prog ops Q (o :: rest) a w := by
  refine wpList_plain hgd fun _ hK => ?_
  refine wp_store_row 54 x y ho b #[.int .i64 W, .int .i64 H, .slice ad n c, .int .i64 k] hx hy 54 c0 hb size54 (by simp [hc0]) (by simp [Value.oneCell']) ?_
  refine hK _ _ (h _ ?_ ?_)
  · simp [World.setRow, Array.getElem?_modify, hb]
  · exact ⟨rfl, rfl, rfl, by simp [World.setRow], fun k _ hk => by simp [World.setRow, Array.getElem?_modify, show ¬ b = k from fun e => hk e.symm]⟩

attribute [local irreducible] cdp zer
attribute [local go_sem] build24f build54

set_option maxRecDepth 100000 in
set_option maxHeartbeats 4000000 in
theorem Count_yes (w h k p : Nat) (hw : 1 ≤ w ∧ w ≤ 10) (hh : 1 ≤ h ∧ h ≤ 10) (hk : 1 ≤ k ∧ k ≤ 10) (hp : p ≤ 6) (W : World) (hT : Tab W) :
    Calls Tryd.prog 20 #[.int .i64 w, .int .i64 h, .int .i64 k, .int .i64 p] W fun e W' => e = .returned (.tuple #[.int .i64 (cdp w h k p (zer (w * h)) 1 : Nat), .int .i64 0]) ∧ Below W.heap.size W W' := by
  have d1 : decide (1 ≤ (w : Int) ∧ (w : Int) ≤ 10) = true := decide_eq_true (by omega)
  have d2 : decide (1 ≤ (h : Int) ∧ (h : Int) ≤ 10) = true := decide_eq_true (by omega)
  have d3 : decide (1 ≤ (k : Int) ∧ (k : Int) ≤ 10) = true := decide_eq_true (by omega)
  obtain ⟨n, hn⟩ : ∃ n, w * h = n := ⟨_, rfl⟩
  have hn100 : n ≤ 100 := by
    have : w * h ≤ 10 * 10 := Nat.mul_le_mul hw.2 hh.2
    omega
  have hn1 : 1 ≤ n := by
    have : 1 * 1 ≤ w * h := Nat.mul_le_mul hw.1 hh.1
    omega
  have hmul : (w : Int) * (h : Int) = (n : Int) := by rw [← hn]; simp
  rw [hn]
  obtain ⟨i0, hi, hz0, hz1, hz2⟩ := info_parts Tryd.info3
  have hby : i0.bytes * n ≤ 281474976710656 := by rw [hz2]; omega
  have hmm : n ≤ maxLen := by unfold maxLen; omega
  have HN := hide hn
  obtain ⟨R, hR⟩ : ∃ R, cdp w h k p (zer n) 1 = R := ⟨_, rfl⟩
  have HR := hide hR
  have hp0 : ¬ (p : Int) < 0 := by omega
  have hp6 : ¬ (6 : Int) < (p : Int) := by omega
  have HT := hide hT
  have hT0 := hT.lt
  rw [hR]
  clear hR hT hn
  go_enter Tryd.func20, Tryd.ntmps20
  go_wp2_with fail
  refine (isSide_any w _).mono ?_
  rintro e wx ⟨rfl, hwx⟩
  subst wx
  rw [d1]
  go_wp2_with fail
  refine (isSide_any h _).mono ?_
  rintro e wx ⟨rfl, hwx⟩
  subst wx
  rw [d2]
  go_wp2_with fail
  refine (isSide_any k _).mono ?_
  rintro e wx ⟨rfl, hwx⟩
  subst wx
  rw [d3]
  clear d1 d2 d3
  go_wp2_with (at_make; refine wpList_make_full W rfl _ _ 22 rfl W.heap.size 3 i0 (.int .i64 0) 1 Tryd.underlying22 hi hz0 hz1 _ _ _ _ n rfl rfl rfl rfl hby hmm (Nat.le_refl _) ?_)
  intro w2 hO hg2
  have HO : Hid (w2.ownsRow 0 3 1 (.slice (some ⟨W.heap.size, 0, none⟩) n n) n ((zer n).map (Value.int .i64))) := hide (by
    rw [← made_zer]
    exact own_base hO (Nat.zero_le _))
  have hs2 : W.heap.size < w2.heap.size := by
    rcases hO.2 with ⟨e, _⟩ | ⟨b, cap, cur, e, _, h2, _⟩
    · cases e
    · simp only [Value.slice.injEq, Option.some.injEq, Addr.mk.injEq] at e
      rw [e.1.1]
      exact (Array.getElem?_eq_some_iff.1 h2).1
  have HB2 : Hid (Below W.heap.size W w2) := hide ((Below.refl _ _).grown hg2 (Nat.le_refl _) (fun j hj => by cases hj))
  clear hO hg2 hi hz0 hz1 hz2 hmm hby
  go_wp2_with (refine wpList_store_well rfl (.tmp 10) (.tmp 41) rfl w2.heap.size rfl rfl rfl (heap_alloc_new _ _) ?_)
  intro w3 hb3 hk3
  have hs3 : w2.heap.size + 1 ≤ w3.heap.size := by have := hk3.size; rw [World.size_alloc] at this; exact this
  have hc3 : w3.heap[W.heap.size]? = w2.heap[W.heap.size]? := (hk3.block _ (by rw [World.size_alloc]; omega) (by omega)).trans (Below.heap_alloc w2 _ _ hs2)
  have HB3 : Hid (Below W.heap.size W w3) := hide (HB2.out.trans ((hk3.mono (Y := fun q => w2.heap.size ≤ q) (fun q _ e => by omega)).below (B := W.heap.size) (by rw [World.size_alloc]; omega) (fun q hq e => by omega) |> fun hb => ((Below.refl _ w2).alloc (by omega) _).trans hb))
  have HG3 : Hid (∀ w4, Below w3.heap.size w3 w4 → WS ⟨w, h, k, n, n, w2.heap.size, W.heap.size⟩ w4 (zer n)) := hide (fun w4 hb => WS.grow (w := w3) ⟨hb3, own_blk HO.out (fun b e => by simp only [Value.ownBlock, Option.some.injEq] at e; rw [← e]; exact hc3), HT.out.mono HB3.out⟩ hb)
  clear hc3 hk3 hb3
  have HOK : Hid (Wp.Ok ⟨w, h, k, n, n, w2.heap.size, W.heap.size⟩) := hide ⟨hw, hh, HN.out, hk, by show w2.heap.size ≠ W.heap.size; omega, by show W.heap.size ≠ 0; omega⟩
  have HCA := hide (cnS_all ⟨w, h, k, n, n, w2.heap.size, W.heap.size⟩ HOK.out w3.heap.size (by show w3.heap.size ≠ W.heap.size; omega) p hp)
  go_upto_region 6 with fail
  obtain ⟨w4, hw4⟩ : ∃ w4, w3.alloc (Obj.cells #[.func (.func 40) #[] #[.pointer (some ⟨w2.heap.size, 0, none⟩), .pointer (some ⟨w3.heap.size, 0, none⟩)]] 46) = w4 := ⟨_, rfl⟩
  have HB4 : Below w3.heap.size w3 w4 := by rw [← hw4]; exact (Below.refl _ _).alloc (Nat.le_refl _) _
  have cf : w4.cell? ⟨w3.heap.size, 0, none⟩ = some (.func (.func 40) #[] #[.pointer (some ⟨w2.heap.size, 0, none⟩), .pointer (some ⟨w3.heap.size, 0, none⟩)]) := by
    rw [← hw4]
    have := heap_alloc_new w3 (Obj.cells #[.func (.func 40) #[] #[.pointer (some ⟨w2.heap.size, 0, none⟩), .pointer (some ⟨w3.heap.size, 0, none⟩)]] 46)
    unfold World.cell?
    simp only [this]
    rfl
  have HC := hide (HCA.out (zer n) 1 w4 (Or.inl rfl) (HG3.out w4 HB4) cf)
  rw [HR.out] at HC
  have HB5 := hide (HB3.out.trans (HB4.mono (by omega)))
  rw [hw4]
  clear hw4 HCA HG3 HO HB4
  go_wp2_with fail
  refine HC.out.mono ?_
  rintro e w5 ⟨rfl, hb5⟩
  have HB6 := hide (HB5.out.trans (hb5.mono HB5.out.size))
  clear hb5 cf HC
  go_wp2_with fail
  go_ret2
  exact ⟨rfl, HB6.out⟩

end Go.Proofs.YtaglhmkjdajgpaaDoor
