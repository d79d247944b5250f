/-
  The document's own answer on rows of k: WonOf. No conditions beyond those that each theorem bears.
-/
import Derived.Test.YthdnbbjehcicbaaDoorRf
import Derived.OwnWalk
namespace Go.Proofs.YthdnbbjehcicbaaDoor
open Go.RowKit

theorem info4 : (Tryd.prog.info? 4).map (fun i => (i.zero, i.size, i.bytes)) = some (some (.bool false), 1, 1) := by kernel_rfl

/-- Which places are marked. -/
def bl (n : Nat) (S : List Nat) : List Bool := (List.range n).map fun q => decide (q ∈ S)

theorem bl_length (n : Nat) (S : List Nat) : (bl n S).length = n := by simp [bl]

theorem bl_set {n : Nat} {S : List Nat} {q : Nat} : (bl n S).set q true = bl n (S ++ [q]) := by
  apply List.ext_getElem
  · simp [bl]
  · intro i h1 h2
    simp only [bl, List.getElem_set, List.getElem_map, List.getElem_range, List.mem_append, List.mem_singleton]
    by_cases e : q = i
    · rw [if_pos e]; simp [e]
    · rw [if_neg e]
      have : ¬ i = q := fun e' => e e'.symm
      simp [this]

theorem bl_nil (n : Nat) : (bl n []).map Value.bool = (madeCells #[Value.bool false] n).toList := by
  rw [toList_madeCells_one]
  apply List.ext_getElem
  · simp [bl]
  · intro i h1 h2
    simp [bl]

/-- The marks lie in a row of the call's own. -/
def Bm (w : World) (base g n : Nat) (S : List Nat) : Prop := w.ownsRow base 4 1 (.slice (some ⟨g, 0, none⟩) n n) n ((bl n S).map Value.bool)

theorem Bm.cell {w : World} {base g n : Nat} {S : List Nat} (h : Bm w base g n S) {q : Nat} (hq : q < n) : w.cell? ⟨g, q, none⟩ = some (.bool (decide (q ∈ S))) ∧ w.frozen? ⟨g, q, none⟩ = false := by
  refine ⟨?_, World.ownsRow.frozenAt h q⟩
  rw [World.ownsRow.cellAt h q (by omega)]
  simp [bl, hq]

theorem Bm.set {w : World} {base g n : Nat} {S : List Nat} (h : Bm w base g n S) (q : Nat) : Bm (w.setCell ⟨g, q, none⟩ (.bool true)) base g n (S ++ [q]) := by
  have := (World.ownsRow.stored h q (.bool true)).1
  unfold Bm
  rw [← bl_set, List.map_set]
  exact this

theorem Bm.below {w w' : World} {base g n : Nat} {S : List Nat} (h : Bm w base g n S) (hb : Below w.heap.size w w') : Bm w' base g n S := own_below h hb

theorem Bm.lt {w : World} {base g n : Nat} {S : List Nat} (h : Bm w base g n S) : g < w.heap.size := by
  rcases h.2 with ⟨e, _⟩ | ⟨g', cap, cur, e, _, h2, _⟩
  · cases e
  · simp only [Value.slice.injEq, Option.some.injEq, Addr.mk.injEq] at e
    rw [e.1.1]
    exact (Array.getElem?_eq_some_iff.1 h2).1

section
variable (W H : Nat) (zs : List Int) (k : Nat)
def wD (y x d : Nat) : List Int := (List.range d).map fun d => rf W H zs k x y d
def wX (y x : Nat) : List Int := (List.range x).flatMap fun x => wD W H zs k y x 4
def wY (y : Nat) : List Int := (List.range y).flatMap fun y => wX W H zs k y W
def mI (y x d i : Nat) : List Nat := (List.range i).map (fun i : Nat => (((y : Int) + rdy d * i) * W + x + rdx d * i).toNat)
def mD (y x d : Nat) : List Nat := (List.range d).flatMap fun d => mark1 W H zs k x y d
def mX (y x : Nat) : List Nat := (List.range x).flatMap fun x => mD W H zs k y x 4
def mY (y : Nat) : List Nat := (List.range y).flatMap fun y => mX W H zs k y W

theorem whos_eq : whos W H zs k = wY W H zs k H := rfl
theorem marks_eq : marks W H zs k = mY W H zs k H := rfl
theorem wD_succ (y x d : Nat) : wD W H zs k y x (d + 1) = wD W H zs k y x d ++ [rf W H zs k x y d] := by simp [wD, List.range_succ]
theorem wX_succ (y x : Nat) : wX W H zs k y (x + 1) = wX W H zs k y x ++ wD W H zs k y x 4 := by simp [wX, List.range_succ]
theorem wY_succ (y : Nat) : wY W H zs k (y + 1) = wY W H zs k y ++ wX W H zs k y W := by simp [wY, List.range_succ]
theorem mD_succ (y x d : Nat) : mD W H zs k y x (d + 1) = mD W H zs k y x d ++ mark1 W H zs k x y d := by simp [mD, List.range_succ]
theorem mX_succ (y x : Nat) : mX W H zs k y (x + 1) = mX W H zs k y x ++ mD W H zs k y x 4 := by simp [mX, List.range_succ]
theorem mY_succ (y : Nat) : mY W H zs k (y + 1) = mY W H zs k y ++ mX W H zs k y W := by simp [mY, List.range_succ]
theorem mI_succ (y x d i : Nat) : mI W y x d (i + 1) = mI W y x d i ++ [(((y : Int) + rdy d * i) * W + x + rdx d * i).toNat] := by simp [mI, List.range_succ]
theorem mark_pos {y x d : Nat} (h : 0 < rf W H zs k x y d) : mark1 W H zs k x y d = mI W y x d k := by rw [mark1, if_pos h, mI]
theorem mark_neg {y x d : Nat} (h : ¬ 0 < rf W H zs k x y d) : mark1 W H zs k x y d = [] := by rw [mark1, if_neg h]
theorem wD_zero (y x : Nat) : wD W H zs k y x 0 = [] := rfl
theorem wX_zero (y : Nat) : wX W H zs k y 0 = [] := rfl
theorem wY_zero : wY W H zs k 0 = [] := rfl
theorem mD_zero (y x : Nat) : mD W H zs k y x 0 = [] := rfl
theorem mX_zero (y : Nat) : mX W H zs k y 0 = [] := rfl
theorem mY_zero : mY W H zs k 0 = [] := rfl
theorem mI_zero (y x d : Nat) : mI W y x d 0 = [] := rfl
end

/-- Where the i-th sign of a row stands. -/
theorem mark_at {W H n : Nat} {zs : List Int} {k x y d i : Nat} (hm : W * H = n) (hi : i < k) (h : 0 < rf W H zs k x y d) : ∃ xn yn A I : Nat, (x : Int) + rdx d * i = xn ∧ (y : Int) + rdy d * i = yn ∧ (yn : Int) * (W : Int) = (A : Int) ∧ (A : Int) + (xn : Int) = (I : Int) ∧ I < n ∧ (((y : Int) + rdy d * i) * W + x + rdx d * i).toNat = I := by
  have hr := rf_row h rfl i hi
  rw [Int.mul_comm _ (rdx d), Int.mul_comm _ (rdy d)] at hr
  have hb := cl_on (by omega) hr
  obtain ⟨xn, yn, A, I, ex, ey, _, _, hA, hI, hIm, hidx⟩ := on_nat hm hb
  exact ⟨xn, yn, A, I, ex, ey, hA, hI, hIm, by rw [Int.add_assoc]; exact hidx⟩

theorem rf_in {W H n : Nat} {zs : List Int} {k x y d : Nat} (hm : W * H = n) (hz : ∀ i, i < n → 0 ≤ zs.getD i 0 ∧ zs.getD i 0 ≤ 2) (hx : x < W) (hy : y < H) : rf W H zs k x y d = 0 ∨ rf W H zs k x y d = 1 ∨ rf W H zs k x y d = 2 := by
  have hl : y * W + x < n := by
    have h3 : (y + 1) * W ≤ H * W := Nat.mul_le_mul_right W hy
    rw [Nat.add_mul, Nat.one_mul] at h3
    rw [← hm, Nat.mul_comm W H]
    omega
  have := hz _ hl
  unfold rf
  split
  · omega
  · exact Or.inl rfl

theorem dir_new1 {d : Nat} (hd : d < 4) (W : World) : (W.alloc (.cells #[.int .i64 1, .int .i64 0, .int .i64 1, .int .i64 1] 3)).cell? ⟨W.heap.size, d, none⟩ = some (.int .i64 (rdx d)) :=
  (Blk.new W 3 [1, 0, 1, 1] _ rfl).cell (i := d) (by simpa using hd)
theorem dir_old1 {d : Nat} (hd : d < 4) (W : World) (o : Obj) : ((W.alloc (.cells #[.int .i64 1, .int .i64 0, .int .i64 1, .int .i64 1] 3)).alloc o).cell? ⟨W.heap.size, d, none⟩ = some (.int .i64 (rdx d)) :=
  ((Blk.new W 3 [1, 0, 1, 1] _ rfl).old o).cell (i := d) (by simpa using hd)
theorem dir_new2 {d : Nat} (hd : d < 4) (W : World) : (W.alloc (.cells #[.int .i64 0, .int .i64 1, .int .i64 1, .int .i64 (-1)] 3)).cell? ⟨W.heap.size, d, none⟩ = some (.int .i64 (rdy d)) :=
  (Blk.new W 3 [0, 1, 1, -1] _ rfl).cell (i := d) (by simpa using hd)
theorem dir_old2 {d : Nat} (hd : d < 4) (W : World) (o : Obj) : ((W.alloc (.cells #[.int .i64 0, .int .i64 1, .int .i64 1, .int .i64 (-1)] 3)).alloc o).cell? ⟨W.heap.size, d, none⟩ = some (.int .i64 (rdy d)) :=
  ((Blk.new W 3 [0, 1, 1, -1] _ rfl).old o).cell (i := d) (by simpa using hd)

theorem lit_x {d : Nat} (hd : d < 4) (h : d < [Value.int .i64 1, .int .i64 0, .int .i64 1, .int .i64 1].length) : [Value.int .i64 1, .int .i64 0, .int .i64 1, .int .i64 1][d]'h = .int .i64 (rdx d) := by
  rcases (show d = 0 ∨ d = 1 ∨ d = 2 ∨ d = 3 by omega) with rfl | rfl | rfl | rfl <;> rfl
theorem lit_y {d : Nat} (hd : d < 4) (h : d < [Value.int .i64 0, .int .i64 1, .int .i64 1, .int .i64 (-1)].length) : [Value.int .i64 0, .int .i64 1, .int .i64 1, .int .i64 (-1)][d]'h = .int .i64 (rdy d) := by
  rcases (show d = 0 ∨ d = 1 ∨ d = 2 ∨ d = 3 by omega) with rfl | rfl | rfl | rfl <;> rfl

theorem mem_snoc_dec (v : Int) (Ws : List Int) (R : Int) : decide (v ∈ Ws ++ [R]) = (decide (v ∈ Ws) || R == v) := by
  by_cases h : v ∈ Ws
  · simp [h]
  · by_cases e : R = v
    · subst e; simp
    · have : ¬ v = R := fun e' => e e'.symm
      simp [h, e, this]

/-- The marked places, and whose rows there are. -/
def mkL (n : Nat) (S : List Nat) : List Nat := (List.range n).filter fun q => decide (q ∈ S)

theorem mkL_in {n : Nat} {S : List Nat} (h : n ∈ S) : mkL (n + 1) S = mkL n S ++ [n] := by
  unfold mkL
  rw [List.range_succ, List.filter_append, List.filter_cons, if_pos (by simpa using h)]
  rfl

theorem mkL_out {n : Nat} {S : List Nat} (h : ¬ n ∈ S) : mkL (n + 1) S = mkL n S := by
  unfold mkL
  rw [List.range_succ, List.filter_append, List.filter_cons, if_neg (by simpa using h), List.filter_nil, List.append_nil]

theorem mkL_len (n : Nat) (S : List Nat) : (mkL n S).length ≤ n := Nat.le_trans (List.length_filter_le _ _) (by simp)
theorem mkL_zero (S : List Nat) : mkL 0 S = [] := rfl

theorem wn_bits (Ws : List Int) : wn Ws = (if decide ((1 : Int) ∈ Ws) = true then 1 else 0) + (if decide ((2 : Int) ∈ Ws) = true then 2 else 0) := by
  unfold wn
  simp only [decide_eq_true_eq]

attribute [local irreducible] cl rf rdx rdy onB mI mD mX mY wD wX wY mark1 wn mkL bl Bm

set_option maxRecDepth 100000 in
set_option maxHeartbeats 8000000 in
theorem WonOf_any (gW gH : Nat) (a : Option Addr) (n c k : Nat) (zs : List Int) (hgW : 1 ≤ gW ∧ gW ≤ 10) (hgH : 1 ≤ gH ∧ gH ≤ 10) (hm : gW * gH = n) (hk : 1 ≤ k ∧ k ≤ 10) (hz : ∀ i, i < n → 0 ≤ zs.getD i 0 ∧ zs.getD i 0 ≤ 2) (w : World) (h : Rd w a n c zs) :
    Calls Tryd.prog 10 #[.agg (gdA gW gH a n c), .int .i64 k] w fun e w' => ∃ a' c', e = .returned (.tuple #[.int .i64 (wn (wY gW gH zs k gH) : Nat), .slice a' (mkL n (mY gW gH zs k gH)).length c']) ∧ Rd w' a' (mkL n (mY gW gH zs k gH)).length c' (toI (mkL n (mY gW gH zs k gH))) ∧ Below w.heap.size w w' := by
  have hnq : n ≤ 100 := by
    have : gW * gH ≤ 10 * 10 := Nat.mul_le_mul hgW.2 hgH.2
    omega
  have hn1 : 0 < n := by
    have : 1 * 1 ≤ gW * gH := Nat.mul_le_mul hgW.1 hgH.1
    omega
  obtain ⟨i0, hi, hz0, hz1, hz2⟩ := info_parts info4
  have HRF := hide (fun x y d (hx : x < gW) (hy : y < gH) (hd : d < 4) w1 (hb : Below w.heap.size w w1) => rowFrom_any gW gH a n c x y d k zs hgW hgH hm hx hy hd (by omega) (fun i hi => (hz i hi).1) w1 (h.mono hb))
  have HIN := hide (fun x y d (hx : x < gW) (hy : y < gH) => rf_in (k := k) (d := d) hm hz hx hy)
  have HMA := hide (fun x y d i (hi : i < k) => mark_at (W := gW) (H := gH) (zs := zs) (x := x) (y := y) (d := d) hm hi)
  have B0 : Below w.heap.size w (w.alloc (.cells (gdA gW gH a n c) 24)) := (Below.refl _ _).alloc (Nat.le_refl _) _
  have G0 := Gd.new w gW gH a n c
  obtain ⟨w1, hw1⟩ : ∃ w1, w.alloc (.cells (gdA gW gH a n c) 24) = w1 := ⟨_, rfl⟩
  rw [hw1] at B0 G0
  obtain ⟨g0, g1, g2⟩ := G0.cells
  have hs1 : w.heap.size < w1.heap.size := G0.lt
  have hmm : n ≤ maxLen := by unfold maxLen; omega
  have hby : i0.bytes * n ≤ 281474976710656 := by rw [hz2]; omega
  have HB0 := hide B0
  have HG0 := hide G0
  clear h hm hz B0 G0
  go_enter Tryd.func10, Tryd.ntmps10
  go_upto_region 1 with fail
  clear hw1
  go_wp2_with (at_make; refine wpList_make_full w1 rfl _ _ 50 rfl w1.heap.size 4 i0 (.bool false) 1 Tryd.underlying50 hi hz0 hz1 _ _ _ _ n rfl rfl rfl rfl hby hmm (Nat.le_refl _) ?_)
  intro w2 hO hg2
  have HM0 : Hid (Bm w2 w1.heap.size w1.heap.size n []) := hide (by unfold Bm; rw [bl_nil]; exact hO)
  have HB2 : Hid (Below w1.heap.size w1 w2) := hide ((Below.refl _ _).grown hg2 (Nat.le_refl _) (fun j hj => by cases hj))
  clear hO hg2 hi hz0 hz1 hz2 hmm hby g0 g1 g2
  go_wp2_with fail
  go_loopw [7, 8, 9] (fun o t v wr => ∃ y : Nat, v = .int .i64 y ∧ y ≤ gH ∧ o = .bool (decide ((1 : Int) ∈ wY gW gH zs k y)) ∧ t = .bool (decide ((2 : Int) ∈ wY gW gH zs k y)) ∧ Hid (Bm wr w1.heap.size w1.heap.size n (mY gW gH zs k y)) ∧ Hid (Below w1.heap.size w1 wr)) (fun _ _ v _ => gH - (intOf v).toNat)
  case atStart => exact ⟨0, rfl, by omega, by rw [wY_zero]; simp, by rw [wY_zero]; simp, by rw [mY_zero]; exact HM0, HB2⟩
  case round =>
    obtain ⟨y, rfl, hy, rfl, rfl, hM, hB⟩ := hrel
    clear HM0 HB2
    obtain ⟨g0, g1, g2⟩ := (HG0.out.below hB.out hs1).cells
    by_cases hlt : y < gH
    · have hlt' : (y : Int) < (gH : Int) := by omega
      go_wp2_with fail
      clear g0 g1 g2
      go_loopw [7, 8, 10] (fun o t v wr => ∃ x : Nat, v = .int .i64 x ∧ x ≤ gW ∧ o = .bool (decide ((1 : Int) ∈ wY gW gH zs k y ++ wX gW gH zs k y x)) ∧ t = .bool (decide ((2 : Int) ∈ wY gW gH zs k y ++ wX gW gH zs k y x)) ∧ Hid (Bm wr w1.heap.size w1.heap.size n (mY gW gH zs k y ++ mX gW gH zs k y x)) ∧ Hid (Below w1.heap.size w1 wr)) (fun _ _ v _ => gW - (intOf v).toNat)
      case atStart => exact ⟨0, rfl, by omega, by rw [wX_zero, List.append_nil], by rw [wX_zero, List.append_nil], by rw [mX_zero, List.append_nil]; exact hM, hB⟩
      case round =>
        obtain ⟨x, rfl, hx, rfl, rfl, hM2, hB2⟩ := hrel
        clear hM hB
        obtain ⟨g0, g1, g2⟩ := (HG0.out.below hB2.out hs1).cells
        by_cases hxl : x < gW
        · have hxl' : (x : Int) < (gW : Int) := by omega
          go_wp2_with fail
          clear g0 g1 g2
          go_loopw [7, 8, 11] (fun o t v wr => ∃ d : Nat, v = .int .i64 d ∧ d ≤ 4 ∧ o = .bool (decide ((1 : Int) ∈ wY gW gH zs k y ++ wX gW gH zs k y x ++ wD gW gH zs k y x d)) ∧ t = .bool (decide ((2 : Int) ∈ wY gW gH zs k y ++ wX gW gH zs k y x ++ wD gW gH zs k y x d)) ∧ Hid (Bm wr w1.heap.size w1.heap.size n (mY gW gH zs k y ++ mX gW gH zs k y x ++ mD gW gH zs k y x d)) ∧ Hid (Below w1.heap.size w1 wr)) (fun _ _ v _ => 4 - (intOf v).toNat)
          case atStart => exact ⟨0, rfl, by omega, by rw [wD_zero, List.append_nil], by rw [wD_zero, List.append_nil], by rw [mD_zero, List.append_nil]; exact hM2, hB2⟩
          case round =>
            obtain ⟨d, rfl, hd, rfl, rfl, hM3, hB3⟩ := hrel
            clear hM2 hB2
            by_cases hdl : d < 4
            · have hdl' : (d : Int) < 4 := by omega
              have HWS : Hid (wY gW gH zs k y ++ wX gW gH zs k y x ++ wD gW gH zs k y x (d + 1) = wY gW gH zs k y ++ wX gW gH zs k y x ++ wD gW gH zs k y x d ++ [rf gW gH zs k x y d]) := hide (by rw [wD_succ]; simp)
              have HMS : Hid (mY gW gH zs k y ++ mX gW gH zs k y x ++ mD gW gH zs k y x (d + 1) = mY gW gH zs k y ++ mX gW gH zs k y x ++ mD gW gH zs k y x d ++ mark1 gW gH zs k x y d) := hide (by rw [mD_succ]; simp)
              obtain ⟨Ws, hWs⟩ : ∃ Ws, wY gW gH zs k y ++ wX gW gH zs k y x ++ wD gW gH zs k y x d = Ws := ⟨_, rfl⟩
              obtain ⟨Ss, hSs⟩ : ∃ Ss, mY gW gH zs k y ++ mX gW gH zs k y x ++ mD gW gH zs k y x d = Ss := ⟨_, rfl⟩
              rw [hWs] at HWS ⊢
              rw [hSs] at HMS hM3
              clear hWs hSs
              go_upto_region 12 with fail
              go_cut [12, 13] from 35 to 88 (fun s1 s2 wc => s1 = .int .i64 (rdx d) ∧ s2 = .int .i64 (rdy d) ∧ Hid (Below wr.heap.size wr wc))
              case first =>
                have c1 := fun W => dir_new1 (d := d) hdl W
                have c1' := fun W o => dir_old1 (d := d) hdl W o
                have c2 := fun W => dir_new2 (d := d) hdl W
                have c2' := fun W o => dir_old2 (d := d) hdl W o
                have e1 : ∀ h, [Value.int .i64 1, .int .i64 0, .int .i64 1, .int .i64 1][d]'h = .int .i64 (rdx d) := fun h => lit_x hdl h
                have e2 : ∀ h, [Value.int .i64 0, .int .i64 1, .int .i64 1, .int .i64 (-1)][d]'h = .int .i64 (rdy d) := fun h => lit_y hdl h
                go_region
                all_goals
                  go_wp2_with fail
                  go_meet
                  case rel =>
                    refine ⟨by first | rfl | exact e1 _, by first | rfl | exact e2 _, hide ?_⟩
                    first
                      | exact ((((Below.refl wr.heap.size wr).alloc (Nat.le_refl _) _).alloc (by simp) _).drew)
                      | exact ((((Below.refl wr.heap.size wr).drew).alloc (Nat.le_refl _) _).alloc (by simp) _)
              case rest =>
                obtain ⟨rfl, rfl, HBc⟩ := hcut
                have HM4 := hide (hM3.out.below HBc.out)
                have HB4 := hide (hB3.out.trans (HBc.out.mono hB3.out.size))
                have HG4 := hide (HG0.out.below HB4.out hs1)
                clear hM3 hB3 HBc
                have G4 := HG4.out
                have HR := hide (HRF.out x y d hxl hlt hdl wc (HB0.out.trans (HB4.out.mono (by omega))))
                have hRI := HIN.out x y d hxl hlt
                have HMI := hide (fun i (hi : i < k) => HMA.out x y d i hi)
                have HMP := hide (fun h => mark_pos gW gH zs k (y := y) (x := x) (d := d) h)
                have HMN := hide (fun h => mark_neg gW gH zs k (y := y) (x := x) (d := d) h)
                obtain ⟨R, hR⟩ : ∃ R, rf gW gH zs k x y d = R := ⟨_, rfl⟩
                rw [hR] at HR hRI HWS HMI HMP HMN
                clear hR
                have hdirx := (rd_dir hdl).1
                have hdiry := (rd_dir hdl).2.1
                obtain ⟨dx, hdx⟩ : ∃ dx, rdx d = dx := ⟨_, rfl⟩
                obtain ⟨dy, hdy⟩ : ∃ dy, rdy d = dy := ⟨_, rfl⟩
                rw [hdx, hdy] at HR ⊢
                rw [hdx] at HMI hdirx
                rw [hdy] at HMI hdiry
                have HDXY := hide (And.intro hdx hdy)
                clear hdx hdy
                go_wp2_with (refine wpList_load_gd rfl (.tmp 2) rfl w.heap.size rfl G4 ?_)
                clear G4
                refine HR.out.mono ?_
                rintro e w5 ⟨rfl, hb5⟩
                have HM5 := hide (HM4.out.below hb5)
                have HB5 := hide (HB4.out.trans (hb5.mono HB4.out.size))
                have HG5 := hide (HG0.out.below HB5.out hs1)
                clear HM4 HB4 HG4 hb5 HR
                obtain ⟨O1, hO1⟩ : ∃ O1, decide ((1 : Int) ∈ Ws ++ [R]) = O1 := ⟨_, rfl⟩
                obtain ⟨O2, hO2⟩ : ∃ O2, decide ((2 : Int) ∈ Ws ++ [R]) = O2 := ⟨_, rfl⟩
                have HO1 := hide hO1
                have HO2 := hide hO2
                clear hO1 hO2
                go_upto_region 14 with fail
                go_cut [7] from 35 to 88 (fun s1 wc => s1 = .bool O1 ∧ w5 = wc)
                case first =>
                  by_cases h1 : (1 : Int) ∈ Ws
                  · have hd1 : decide ((1 : Int) ∈ Ws) = true := decide_eq_true h1
                    have H1 := hide h1
                    clear h1
                    go_wp2_with fail
                    go_meet
                    case rel => exact ⟨by rw [← HO1.out, mem_snoc_dec, hd1]; rfl, rfl⟩
                  · have hd1 : decide ((1 : Int) ∈ Ws) = false := decide_eq_false h1
                    have H1 := hide h1
                    clear h1
                    by_cases hR1 : R = 1
                    · have hb : (R == 1) = true := by simpa using hR1
                      have HR1 := hide hR1
                      clear hR1
                      go_wp2_with fail
                      go_meet
                      case rel => exact ⟨by rw [← HO1.out, mem_snoc_dec, hd1, hb]; rfl, rfl⟩
                    · have hb : (R == 1) = false := by simpa using hR1
                      have HR1 := hide hR1
                      clear hR1
                      go_wp2_with fail
                      go_meet
                      case rel => exact ⟨by rw [← HO1.out, mem_snoc_dec, hd1, hb]; rfl, rfl⟩
                case rest =>
                obtain ⟨rfl, rfl⟩ := hcut
                go_upto_region 15 with fail
                go_cut [8] from 35 to 88 (fun s1 wc => s1 = .bool O2 ∧ w5 = wc)
                case first =>
                  by_cases h1 : (2 : Int) ∈ Ws
                  · have hd1 : decide ((2 : Int) ∈ Ws) = true := decide_eq_true h1
                    have H1 := hide h1
                    clear h1
                    go_wp2_with fail
                    go_meet
                    case rel => exact ⟨by rw [← HO2.out, mem_snoc_dec, hd1]; rfl, rfl⟩
                  · have hd1 : decide ((2 : Int) ∈ Ws) = false := decide_eq_false h1
                    have H1 := hide h1
                    clear h1
                    by_cases hR1 : R = 2
                    · have hb : (R == 2) = true := by simpa using hR1
                      have HR1 := hide hR1
                      clear hR1
                      go_wp2_with fail
                      go_meet
                      case rel => exact ⟨by rw [← HO2.out, mem_snoc_dec, hd1, hb]; rfl, rfl⟩
                    · have hb : (R == 2) = false := by simpa using hR1
                      have HR1 := hide hR1
                      clear hR1
                      go_wp2_with fail
                      go_meet
                      case rel => exact ⟨by rw [← HO2.out, mem_snoc_dec, hd1, hb]; rfl, rfl⟩
                case rest =>
                obtain ⟨rfl, rfl⟩ := hcut
                by_cases hpos : 0 < R
                · have HMK := hide (HMP.out hpos)
                  have HMJ := hide (fun i hi => HMI.out i hi hpos)
                  clear HMI HMP HMN
                  go_wp2_with fail
                  go_loopw [15] (fun v wr => ∃ i : Nat, v = .int .i64 i ∧ i ≤ k ∧ Hid (Bm wr w1.heap.size w1.heap.size n (Ss ++ mI gW y x d i)) ∧ Hid (Below w1.heap.size w1 wr)) (fun v _ => k - (intOf v).toNat)
                  case atStart => exact ⟨0, rfl, by omega, by rw [mI_zero, List.append_nil]; exact HM5, HB5⟩
                  case round =>
                    obtain ⟨i, rfl, hik, hM6, hB6⟩ := hrel
                    clear HM5 HB5 HG5
                    by_cases hil : i < k
                    · have hil' : (i : Int) < (k : Int) := by omega
                      obtain ⟨xn, yn, A, I, ex, ey, hA, hI, hIn, hidx⟩ := HMJ.out i hil
                      have HSI : Hid (Ss ++ mI gW y x d (i + 1) = Ss ++ mI gW y x d i ++ [I]) := hide (by rw [mI_succ, HDXY.out.1, HDXY.out.2, hidx, List.append_assoc])
                      have hp := mul_bd hdirx (show i ≤ 10 by omega)
                      have hq := mul_bd hdiry (show i ≤ 10 by omega)
                      obtain ⟨P, hP⟩ : ∃ P, dx * (i : Int) = P := ⟨_, rfl⟩
                      obtain ⟨Q, hQ⟩ : ∃ Q, dy * (i : Int) = Q := ⟨_, rfl⟩
                      rw [hP] at hp ex
                      rw [hQ] at hq ey
                      have hI2 : (A : Int) + (x : Int) + P = (I : Int) := by omega
                      obtain ⟨cI, fI⟩ := hM6.out.cell hIn
                      have HMX : Hid (Bm (wr.setCell ⟨w1.heap.size, I, none⟩ (.bool true)) w1.heap.size w1.heap.size n (Ss ++ mI gW y x d (i + 1))) := hide (by rw [HSI.out]; exact hM6.out.set I)
                      have HBX : Hid (Below w1.heap.size w1 (wr.setCell ⟨w1.heap.size, I, none⟩ (.bool true))) := hide (hB6.out.setCell (p := ⟨w1.heap.size, I, none⟩) (Nat.le_refl _) _)
                      obtain ⟨g0, g1, g2⟩ := (HG0.out.below hB6.out hs1).cells
                      clear hidx hM6 hB6 hI ex
                      go_wp2_with fail
                      exact ⟨⟨i + 1, by go_num, by omega, HMX, HBX⟩, by simp [intOf]; omega⟩
                    · have hil' : ¬ (i : Int) < (k : Int) := by omega
                      have hie : i = k := by omega
                      have HMZ : Hid (Bm wr w1.heap.size w1.heap.size n (mY gW gH zs k y ++ mX gW gH zs k y x ++ mD gW gH zs k y x (d + 1))) := hide (by rw [HMS.out, HMK.out, ← hie]; exact hM6.out)
                      clear hie
                      go_wp2_with fail
                      exact ⟨⟨d + 1, by go_num, by omega, by rw [HWS.out, HO1.out], by rw [HWS.out, HO2.out], HMZ, hB6⟩, by simp [intOf]; omega⟩
                · have HMZ : Hid (Bm w5 w1.heap.size w1.heap.size n (mY gW gH zs k y ++ mX gW gH zs k y x ++ mD gW gH zs k y x (d + 1))) := hide (by rw [HMS.out, HMN.out (by omega), List.append_nil]; exact HM5.out)
                  have hk0 : (0 : Int) < (k : Int) := by omega
                  go_wp2_with fail
                  go_loopw [15] (fun v wr => v = .int .i64 0 ∧ w5 = wr) (fun _ _ => 0)
                  case atStart => exact ⟨rfl, rfl⟩
                  case round =>
                    obtain ⟨rfl, rfl⟩ := hrel
                    go_wp2_with fail
                    exact ⟨⟨d + 1, by go_num, by omega, by rw [HWS.out, HO1.out], by rw [HWS.out, HO2.out], HMZ, HB5⟩, by simp [intOf]; omega⟩
            · have hdl' : ¬ (d : Int) < 4 := by omega
              have hde : d = 4 := by omega
              subst hde
              have HWZ : Hid (wY gW gH zs k y ++ wX gW gH zs k y (x + 1) = wY gW gH zs k y ++ wX gW gH zs k y x ++ wD gW gH zs k y x 4) := hide (by rw [wX_succ]; simp)
              have HMZ : Hid (Bm wr w1.heap.size w1.heap.size n (mY gW gH zs k y ++ mX gW gH zs k y (x + 1))) := hide (by rw [mX_succ, ← List.append_assoc]; exact hM3.out)
              go_wp2_with fail
              exact ⟨⟨x + 1, by go_num, by omega, by rw [HWZ.out], by rw [HWZ.out], HMZ, hB3⟩, by simp [intOf]; omega⟩
        · have hxl' : ¬ (x : Int) < (gW : Int) := by omega
          have hxe : x = gW := by omega
          subst hxe
          have HMZ : Hid (Bm wr w1.heap.size w1.heap.size n (mY x gH zs k (y + 1))) := hide (by rw [mY_succ]; exact hM2.out)
          go_wp2_with fail
          exact ⟨⟨y + 1, by go_num, by omega, by rw [wY_succ], by rw [wY_succ], HMZ, hB2⟩, by simp [intOf]; omega⟩
    · have hlt' : ¬ (y : Int) < (gH : Int) := by omega
      have hye : y = gH := by omega
      subst hye
      have hwb := wn_bits (wY gW y zs k y)
      obtain ⟨V, hV⟩ : ∃ V, wn (wY gW y zs k y) = V := ⟨_, rfl⟩
      rw [hV] at hwb
      have HV := hide hV
      clear hV
      obtain ⟨Ss, hSs⟩ : ∃ Ss, mY gW y zs k y = Ss := ⟨_, rfl⟩
      rw [hSs] at hM
      have HSE := hide hSs
      clear hSs
      obtain ⟨O, hO⟩ : ∃ O, decide ((1 : Int) ∈ wY gW y zs k y) = O := ⟨_, rfl⟩
      obtain ⟨T, hT⟩ : ∃ T, decide ((2 : Int) ∈ wY gW y zs k y) = T := ⟨_, rfl⟩
      rw [hO, hT] at hwb ⊢
      clear hO hT
      have HBF := hide (HB0.out.trans (hB.out.mono (by omega)))
      obtain ⟨w6, hw6⟩ : ∃ w6, wr = w6 := ⟨_, rfl⟩
      rw [hw6] at hM hB HBF g0 g1 g2 ⊢
      clear hw6
      have hwb2 : O = false ∧ T = false ∧ V = 0 ∨ O = true ∧ T = false ∧ V = 1 ∨ O = false ∧ T = true ∧ V = 2 ∨ O = true ∧ T = true ∧ V = 3 := by
        cases O <;> cases T <;> simp at hwb <;> simp [hwb]
      clear hwb
      rcases hwb2 with ⟨rfl, rfl, hVV⟩ | ⟨rfl, rfl, hVV⟩ | ⟨rfl, rfl, hVV⟩ | ⟨rfl, rfl, hVV⟩
      all_goals
        have HVV := hide hVV
        clear hVV
        go_wp2_with fail
        go_loopw [17, 18] (fun v x wr => ∃ (j cp : Nat) (ad : Option Addr), x = .int .i64 j ∧ j ≤ n ∧ v = .slice ad (mkL j Ss).length cp ∧ Hid (wr.ownsRow w6.heap.size 3 1 (.slice ad (mkL j Ss).length cp) (mkL j Ss).length ((toI (mkL j Ss)).map (Value.int .i64))) ∧ Hid (Below w6.heap.size w6 wr)) (fun _ x _ => n - (intOf x).toNat)
        case atStart =>
          refine ⟨0, 0, none, rfl, by omega, ?_, ?_, hide (Below.refl _ _)⟩
          · rw [mkL_zero]; rfl
          · rw [mkL_zero]; exact World.ownsRow_nil _ _ _ _
        case round =>
          obtain ⟨j, cp, ad, rfl, hj, rfl, hO, hB7⟩ := hrel
          by_cases hjl : j < n
          · have hjl' : (j : Int) < (n : Int) := by omega
            obtain ⟨cj, -⟩ := (hM.out.below hB7.out).cell hjl
            have hml := mkL_len j Ss
            by_cases hin : j ∈ Ss
            · rw [decide_eq_true hin] at cj
              have HE := hide (mkL_in hin)
              have hR1 : Rd (World.alloc wr (.cells #[.int .i64 (j : Nat)] 3)) (some ⟨wr.heap.size, 0, none⟩) 1 1 [((j : Nat) : Int)] := Rd.of_blk (Blk.new wr 3 [((j : Nat) : Int)] _ rfl) rfl (by decide)
              have hOa := hO.out.alloc (.cells #[.int .i64 (j : Nat)] 3)
              have hBa := hB7.out.alloc hB7.out.size (.cells #[.int .i64 (j : Nat)] 3)
              have hsz := hBa.size
              have HPL : Hid ((mkL (j + 1) Ss).length = (mkL j Ss).length + 1) := hide (by rw [HE.out]; simp)
              have HPI : Hid (toI (mkL (j + 1) Ss) = toI (mkL j Ss) ++ [((j : Nat) : Int)]) := hide (by rw [HE.out, toI_snoc])
              clear hin
              generalize hpl : (mkL j Ss).length = M at *
              clear hpl
              go_wp2_with (at_builtin; refine wpList_append_rd _ rfl _ _ rfl w6.heap.size _ M (toI (mkL j Ss)) rfl hOa (some ⟨wr.heap.size, 0, none⟩) 1 1 [((j : Nat) : Int)] rfl hR1 (by omega) hsz ?_)
              intro v' w8 hO8 hg8
              obtain ⟨ad8, cp8, rfl⟩ := slice_form hO8
              have HB8 := hide (hBa.grown hg8 (by omega) (fun q hq => by rcases hO.out.2 with ⟨e, _⟩ | ⟨g, cap, cur, e, hbg, _⟩ <;> rw [e] at hq <;> simp [Value.ownBlock] at hq; omega))
              have HO8 := hide hO8
              clear hO8 hg8 hR1 hOa hBa
              go_wp2_with fail
              refine ⟨⟨j + 1, cp8, ad8, by go_num, by omega, ?_, ?_, HB8⟩, by simp [intOf]; omega⟩
              · rw [HPL.out]
              · rw [HPL.out, HPI.out, List.map_append]; exact HO8
            · rw [decide_eq_false hin] at cj
              have HE := hide (mkL_out hin)
              clear hin
              go_wp2_with fail
              refine ⟨⟨j + 1, cp, ad, by go_num, by omega, ?_, ?_, hB7⟩, by simp [intOf]; omega⟩
              · rw [HE.out]
              · rw [HE.out]; exact hO
          · have hjl' : ¬ (j : Int) < (n : Int) := by omega
            have hje : j = n := by omega
            subst hje
            have HBE := hide (HBF.out.trans (hB7.out.mono HBF.out.size))
            go_wp2_with fail
            go_ret2
            rw [HSE.out]
            exact ⟨ad, cp, by rw [HV.out, HVV.out]; rfl, Rd.of_own hO.out, HBE.out⟩

end Go.Proofs.YthdnbbjehcicbaaDoor
