/-
  Moves compared. No conditions beyond those that each theorem bears.
  Chess: whether anything can be moved, whether a move is one: walked. No conditions beyond those that each theorem bears.
  Chess: a state built whole: its cells. No conditions beyond those that each theorem bears.
-/
import Derived.Test.YtdmlamnonbmboaaDoorQ30
import Derived.Laws.StructEq
import Derived.Test.YtdmlamnonbmboaaDoorQ32
import Derived.Laws.Tables
namespace Go.Proofs.YtdmlamnonbmboaaDoor
open Go.RowKit Go.Shelf

abbrev m3 (a b c : Int) : Value := .agg #[.int .i64 a, .int .i64 b, .int .i64 c]
def eq3 (a b c x y z : Int) : Bool := a == x && (b == y && c == z)

theorem fields26 : Tryd.prog.underlying 42 = some (.struct (Tryd.prog.fieldsOf 42)) := by kernel_rfl
theorem eq26 (w : World) (a b c x y z : Int) : (binOp .eql 42 (m3 a b c) (m3 x y z)).run Tryd.prog w = .ok (.bool (eq3 a b c x y z)) w := by
  rw [run_eql_struct, run_equalIn_struct w 9999 42 _ _ fields26 (by kernel_rfl)]
  unfold eq3
  simp [Program.fieldsOf, Tryd.underlying42, Op.eqFields, part, go_sem]
  by_cases h1 : a = x
  · by_cases h2 : b = y
    · by_cases h3 : c = z
      · simp [h1, h2, h3]
      · simp [h1, h2, h3]
    · simp [h1, h2]
  · simp [h1]

theorem guard26 : Tryd.prog.eqGuardType Tryd.prog.depth 42 = false := by kernel_rfl

section
variable {l n : Nat} {ops : Array Oper} {rest : List Oper} {o : Oper} {a : Act} {w : World} {Q : Exit → Act → World → Prop}
theorem wp_eq26 {K : Act → World → Prop} (x y : Operand) (ho : o.op = .binOp .eql 42 x y 42) {a1 a2 a3 b1 b2 b3 : Int}
    (hx : a.eval x = m3 a1 a2 a3) (hy : a.eval y = m3 b1 b2 b3) (h : K (a.put o.dst (.bool (eq3 a1 a2 a3 b1 b2 b3))) w) : o.wp Tryd.prog a w K Q := by
  unfold Oper.wp execOp
  have h1 := run_eqGuard_agg (P := Tryd.prog) w .eql 42 x y #[.int .i64 a1, .int .i64 a2, .int .i64 a3] #[.int .i64 b1, .int .i64 b2, .int .i64 b3] guard26
  have h2 := eq26 w a1 a2 a3 b1 b2 b3
  simp only [ho, hx, hy, Sem.run_bind, h1, h2, Result.andThen_ok]
  exact h
theorem wpList_eq26 (hgd : o.guard = none) (x y : Operand) (ho : o.op = .binOp .eql 42 x y 42) {a1 a2 a3 b1 b2 b3 : Int}
    (hx : a.eval x = m3 a1 a2 a3) (hy : a.eval y = m3 b1 b2 b3)
    (h : wpList Tryd.prog ops Q rest (a.put o.dst (.bool (eq3 a1 a2 a3 b1 b2 b3))) w) : wpList Tryd.prog ops Q (o :: rest) a w :=
  wpList_plain hgd fun _ hK => wp_eq26 x y ho hx hy (hK _ _ h)
theorem wpListIn_eq26 (hgd : o.guard = none) (x y : Operand) (ho : o.op = .binOp .eql 42 x y 42) {a1 a2 a3 b1 b2 b3 : Int}
    (hx : a.eval x = m3 a1 a2 a3) (hy : a.eval y = m3 b1 b2 b3)
    (h : wpListIn (Fence.wide.inRound l) n Tryd.prog ops Q rest (a.put o.dst (.bool (eq3 a1 a2 a3 b1 b2 b3))) w) : wpListIn (Fence.wide.inRound l) n Tryd.prog ops Q (o :: rest) a w :=
  wpListIn_plain hgd fun _ hK => oper_round (fun c e => by rw [ho] at e; cases e) (wp_eq26 x y ho hx hy (hK _ _ h))
end

end Go.Proofs.YtdmlamnonbmboaaDoor

namespace Go.Proofs.YtdmlamnonbmboaaDoor
open Go.RowKit Go.Shelf

theorem movesP_seq (sb b : Nat) (p : Ps) (hM : MayP p) : SeqO Tryd.prog 69 #[.pointer (some ⟨sb, 0, none⟩)] MvG (mvs p) (MlR sb b p.Z (p.t : Nat) (p.k : Nat) p.e (p.h : Nat) (p.f : Nat)) (MlT sb b) :=
  moves1_seq sb b p.Z p.t p.k p.e p.h p.f hM.t1 hM.st hM.cas hM.pas (kf p.Z p.t) (kf_kg hM.st p.t)

/-- Whether such a move is one. -/
def hasB (l : List (Nat × Nat × Nat)) (a b c : Int) : Bool := l.any fun m => eq3 (m.1 : Nat) (m.2.1 : Nat) (m.2.2 : Nat) a b c
theorem hasB_nil (a b c : Int) : hasB [] a b c = false := rfl
theorem hasB_snoc (l : List (Nat × Nat × Nat)) (m : Nat × Nat × Nat) (a b c : Int) : hasB (l ++ [m]) a b c = (hasB l a b c || eq3 (m.1 : Nat) (m.2.1 : Nat) (m.2.2 : Nat) a b c) := by unfold hasB; rw [List.any_append]; simp
theorem hasB_pre {s L : List (Nat × Nat × Nat)} {a b c : Int} (h : s <+: L) (hs : hasB s a b c = true) : hasB L a b c = true := by
  obtain ⟨r, rfl⟩ := h
  unfold hasB at *
  rw [List.any_append, hs]; rfl

attribute [local irreducible] mvs hasB eq3
attribute [local go_sem] Oper.semAt_some wide_fn wide_fn0 wide_depth

set_option maxRecDepth 100000 in
set_option maxHeartbeats 4000000 in
theorem canMove_any (b : Nat) (p : Ps) (hM : MayP p) (w : World) (hs : Sb w b p.Z (p.t : Nat) (p.k : Nat) p.e (p.h : Nat) (p.f : Nat)) (hT : TabS w) (hZ : TzT w) :
    Calls Tryd.prog 61 #[.pointer (some ⟨b, 0, none⟩)] w fun r w' => r = .returned (.bool (!(mvs p).isEmpty)) ∧ Below w.heap.size w w' := by
  have HSQ := hide (fun sb => movesP_seq sb b p hM)
  obtain ⟨XS, hXS⟩ : ∃ XS, mvs p = XS := ⟨_, rfl⟩
  rw [hXS] at HSQ ⊢
  obtain ⟨w1, hw1⟩ : ∃ w1, w.alloc (.cells #[.bool false] 4) = w1 := ⟨_, rfl⟩
  obtain ⟨g, hg⟩ : ∃ g, w.heap.size = g := ⟨_, rfl⟩
  have B1 : Below w.heap.size w w1 := by rw [← hw1]; exact (Below.refl _ _).alloc (Nat.le_refl _) _
  have V1 : Vb w1 g 4 [.bool false] := by rw [← hw1, ← hg]; exact Vb.new w 4 _
  have hg1 : g < w1.heap.size := V1.lt
  have HR2 := hide (MlR.new (hs.mono B1) (hT.mono B1) (hZ.mono B1))
  have HBL : Hid (b < g ∧ 0 < g ∧ 2 < g) := hide (by have := hs.lt; have := hT.lt; have := hZ.lt; omega)
  have HB1 := hide B1
  obtain ⟨w2, hw2⟩ : ∃ w2, w1.alloc (.cells #[.pointer (some ⟨b, 0, none⟩)] 89) = w2 := ⟨_, rfl⟩
  rw [hw2] at HR2
  have B2 : Below w1.heap.size w1 w2 := by rw [← hw2]; exact (Below.refl _ _).alloc (Nat.le_refl _) _
  have HV2 := hide (V1.mono B2)

  have HZ2 : Hid (g < w1.heap.size ∧ w1.heap.size < w2.heap.size) := hide ⟨hg1, by rw [← hw2]; simp⟩
  have HB2 : Hid (Below w.heap.size w w2) := hide (HB1.out.trans (B2.mono HB1.out.size))
  have HGW : Hid (w.heap.size ≤ g) := hide (by omega)
  clear hs hT hZ hM hXS B1 V1 B2 hg1
  refine (callsIn_wide (n := 3)).1 ?_
  refine callsIn_of_wp_marks Tryd.func61 rfl trivial ?_ rfl
  simp only [Tryd.ntmps61, List.size_toArray, List.length_cons, List.length_nil, Nat.reduceAdd, Nat.reduceSub, Array.replicate_succ, Array.replicate_zero, List.push_toArray, List.append_toArray, List.nil_append, List.cons_append]
  refine wpIn_wide.2 ?_
  go_upto_region 1 with fail
  try rw [hg]
  clear hw1
  go_wp2_with fail
  refine (moves_any b _).mono ?_
  rintro r w5 ⟨rfl, hw5⟩
  rw [hw2] at hw5
  subst w5
  clear hw2
  go_wp2_with fail
  refine (wpIn_wide (n := 1)).1 (wp_range_o (gf := 69) (lb := #[.pointer (some ⟨w1.heap.size, 0, none⟩)]) (G := MvG) (xs := XS) (R := MlR w1.heap.size b p.Z (p.t : Nat) (p.k : Nat) p.e (p.h : Nat) (p.f : Nat)) (T := MlT w1.heap.size b) (by simp [Act.eval]) (enters_of Tryd.func69 (by kernel_rfl) rfl)
    (HSQ.out w1.heap.size) (fun j hj => HR2.out.lt j hj) (fun A hA => HR2.out.keeps (X := fun _ => False) (Keeps.of_all hA) (fun _ _ e => e)) (fun x args W' hG => by rw [hG]; rfl)
    (fun O s W' => s = [] ∧ (∀ j, O j → j = g) ∧ O g ∧ Vb W' g 4 [.bool false]) (fun d O W' => d = .ret ∧ XS.isEmpty = false ∧ (∀ j, O j → j = g) ∧ O g ∧ Vb W' g 4 [.bool true]) (fun j => j = g) ?hC ⟨rfl, fun _ h => h, rfl, HV2.out⟩ ?round ?done ?stop)
  case hC =>
    have z2 := HZ2.out
    have zb := HBL.out
    have nT : ¬ MlT w1.heap.size b g := by
      rintro (h | h | h | h) <;> omega
    intro d
    refine ⟨?_, ?_, ?_, ?_⟩
    · rintro O s A ⟨_, h1, _, h3⟩ j hj
      obtain rfl := h1 j hj
      exact ⟨h3.lt, nT⟩
    · rintro O A ⟨_, _, h1, _, h3⟩ j hj
      obtain rfl := h1 j hj
      exact ⟨h3.lt, nT⟩
    · rintro O s A B ⟨h0, h1, h2, h3⟩ hkk
      exact ⟨h0, h1, h2, h3.keeps hkk (fun e => e.2 h2)⟩
    · rintro O A B ⟨h0, hx, h1, h2, h3⟩ hkk
      exact ⟨h0, hx, h1, h2, h3.keeps hkk (fun e => e.2 h2)⟩
  case round =>
    rintro l2 O s m args W6 hl2 _ ⟨rfl, hO, hOg, hV6⟩ hOl hK6 _ hpre hG hsz6
    obtain rfl : args = #[mvV m] := hG
    have HNE : Hid (XS.isEmpty = false) := hide (by
      obtain ⟨r, rfl⟩ := hpre
      rfl)
    have HO := hide hO
    have HOg := hide hOg
    have HL : Hid (g < l2) := hide (by have := HZ2.out; omega)
    have HV6 := hide hV6
    clear hO hOg hV6 hOl hK6 hpre hsz6 hl2
    gi_wp2
    refine ⟨Below.refl _ _, ?_⟩
    intro W7 hk7
    have V7 := HV6.out.keeps hk7 (fun e => by have := HL.out; omega)
    have c7 := V7.cell (i := 0) rfl
    have f7 := V7.frozen 0
    have HV7 := hide V7
    clear V7 HV6 hk7
    gi_wp2
    exact ⟨(Keeps.set1 _ _ _ _).mono (fun j _ e => by rw [e]; exact HOg.out), O, fun _ _ h => h, rfl, HNE.out, HO.out, HOg.out, HV7.out.set 0 _⟩
  case done =>
    rintro D O W6 hD ⟨hnil, hO, hOg, hV6⟩ hk6 hm6 hKd
    have z2 := HZ2.out
    have nD : ¬ O D := fun h => by have := hO _ h; omega
    have HM6 : Hid (Mks O w.heap.size (W6.setCell ⟨g, 0, none⟩ (.bool false)) [{ target := .collected D, args := #[] }]) := hide ((Mks.nil O w.heap.size (W6.setCell ⟨g, 0, none⟩ (.bool false))).push (n := w2.heap.size) (fun Ds hd E hE => by
      cases Ds with
      | nil => cases hE
      | cons _ _ => simp at hd) (by omega) (by have := HGW.out; omega) nD (((Keeps.set1 W6 g 0 (.bool false)).block D (Array.getElem?_eq_some_iff.1 hKd).1 (fun e => by omega)).trans hKd))
    have HO := hide hO
    have HOg := hide hOg
    have c6 := hV6.cell (i := 0) rfl
    have f6 := hV6.frozen 0
    have HV7 := hide (hV6.set 0 (.bool false))
    have HNI : Hid ((!XS.isEmpty) = false) := hide (by rw [hnil]; rfl)
    have HKx : Hid (Keeps (fun j => j = g) w2 (W6.setCell ⟨g, 0, none⟩ (.bool false))) := hide (hk6.trans (Keeps.set1 _ _ _ _))
    clear hnil hO hOg hV6 hk6 hm6 hKd
    go_wp2
    refine leaves_mks (w := W6.setCell ⟨g, 0, none⟩ (.bool false)) HM6.out (fun w9 hk9 => ?_)
    have hV9 := HV7.out.keeps hk9 (fun e => e.2 HOg.out)
    have hka : Below w.heap.size w (W6.setCell ⟨g, 0, none⟩ (.bool false)) := HB2.out.trans (HKx.out.below HB2.out.size (fun j hj e => by have := HGW.out; omega))
    have hkb : Below w.heap.size (W6.setCell ⟨g, 0, none⟩ (.bool false)) w9 := hk9.below hka.size (fun j hj e => by have := e.1; omega)
    exact ⟨_, results_b1 rfl _ _ g rfl (hV9.cell (i := 0) rfl), by rw [HNI.out], hka.trans hkb⟩
  case stop =>
    rintro d D O W6 hD ⟨rfl, hne, hO, hOg, hV6⟩ hk6 hm6 hKd
    have z2 := HZ2.out
    have nD : ¬ O D := fun h => by have := hO _ h; omega
    have HM6 : Hid (Mks O w.heap.size W6 [{ target := .collected D, args := #[] }]) := hide ((Mks.nil O w.heap.size W6).push (n := w2.heap.size) (fun Ds hd E hE => by
      cases Ds with
      | nil => cases hE
      | cons _ _ => simp at hd) (by omega) (by have := HGW.out; omega) nD (hKd))
    have HO := hide hO
    have HOg := hide hOg
    have HV7 := hide hV6
    have HNI : Hid ((!XS.isEmpty) = true) := hide (by rw [hne]; rfl)
    have HKx : Hid (Keeps (fun j => j = g) w2 W6) := hide hk6
    clear hne hO hOg hV6 hk6 hm6 hKd
    refine wpIn_wide.2 ?_
    go_wp2
    refine leaves_mks HM6.out (fun w9 hk9 => ?_)
    have hV9 := HV7.out.keeps hk9 (fun e => e.2 HOg.out)
    have hka : Below w.heap.size w (W6) := HB2.out.trans (HKx.out.below HB2.out.size (fun j hj e => by have := HGW.out; omega))
    have hkb : Below w.heap.size (W6) w9 := hk9.below hka.size (fun j hj e => by have := e.1; omega)
    exact ⟨_, results_b1 rfl _ _ g rfl (hV9.cell (i := 0) rfl), by rw [HNI.out], hka.trans hkb⟩

end Go.Proofs.YtdmlamnonbmboaaDoor

namespace Go.Proofs.YtdmlamnonbmboaaDoor
open Go.RowKit Go.Shelf

/-- A row laid into another one. -/
theorem lay_row : ∀ (vs : List Value) (off n : Nat) (cs : Array Value), off + n + vs.length ≤ cs.size →
    (((vs.zipIdx n).foldl (fun cs (p : Value × Nat) => cs.setIfInBounds (off + p.2) p.1) cs).toList = cs.toList.take (off + n) ++ vs ++ cs.toList.drop (off + n + vs.length))
  | [], off, n, cs, h => by simp
  | v :: vs, off, n, cs, h => by
    rw [List.length_cons] at h
    rw [List.zipIdx_cons, List.foldl_cons]
    have := lay_row vs off (n + 1) (cs.setIfInBounds (off + n) v) (by simp; omega)
    rw [this]
    have hlt : off + n < cs.toList.length := by rw [Array.length_toList]; omega
    have e1 : (cs.setIfInBounds (off + n) v).toList = cs.toList.set (off + n) v := by simp
    rw [e1, List.length_cons]
    apply List.ext_getElem?
    intro i
    simp only [List.getElem?_append, List.length_append, List.length_take, List.length_set, List.length_cons, List.getElem?_drop, List.getElem?_set, List.getElem?_take, List.getElem?_cons, Array.length_toList] at *
    have m1 : min (off + (n + 1)) cs.size = off + n + 1 := by omega
    have m2 : min (off + n) cs.size = off + n := by omega
    rw [m1, m2]
    by_cases h1 : i < off + n
    · rw [if_pos (by omega), if_pos (by omega), if_pos (by omega), if_neg (by omega), if_pos (by omega), if_pos h1, if_pos h1]
    · by_cases h2 : i = off + n
      · subst h2
        rw [if_pos (by omega), if_pos (by omega), if_pos (by omega), if_pos rfl, if_pos (by omega), if_pos (by omega), if_neg (by omega), if_pos (by omega)]
      · by_cases h3 : i < off + n + 1 + vs.length
        · rw [if_pos (by omega), if_neg (by omega), if_pos (by omega), if_neg (by omega), if_neg (by omega)]
          congr 1
        · rw [if_neg (by omega), if_neg (by omega), if_neg (by omega)]
          congr 1; omega

theorem fill_row {place : Nat → Option (Nat × Nat)} {cells : Array Value} {i off size : Nat} {v : Value} {rest : List (Nat × Value)} (hp : place i = some (off, size)) (hs : v.cells.size = size) (hb : off + size ≤ cells.size) :
    Instr.fill place cells ((i, v) :: rest) = Instr.fill place (cells.toList.take off ++ v.cells.toList ++ cells.toList.drop (off + size)).toArray rest := by
  have h := lay_row v.cells.toList off 0 cells (by simp; omega)
  rw [Instr.fill, hp]
  dsimp only
  rw [if_neg (by simp [hs]; omega)]
  congr 1
  apply Array.ext'
  rw [List.toList_toArray, ← hs]
  rw [Nat.add_zero, Array.length_toList] at h
  rw [← h]
  congr 1
  rw [← Array.foldl_toList]
  congr 1
  simp

theorem fill_one {place : Nat → Option (Nat × Nat)} {L : List Value} {i off : Nat} {v : Value} {rest : List (Nat × Value)} (hp : place i = some (off, 1)) (hs : v.cells = #[v]) (hb : off < L.length) :
    Instr.fill place L.toArray ((i, v) :: rest) = Instr.fill place (L.set off v).toArray rest := by
  rw [Instr.fill, hp]
  dsimp only
  rw [hs, if_neg (by simp; omega)]
  simp

def places53 : List (Nat × Nat) := [(0, 64), (64, 1), (65, 1), (66, 1), (67, 1), (68, 1)]
def zr5 : List Value := [.int .i64 0, .int .i64 0, .int .i64 0, .int .i64 0, .int .i64 0]
set_option maxRecDepth 100000 in
theorem built53 (parts : List (Nat × Value)) : Tryd.prog.built 51 parts = Instr.fill (places53.toArray[·]?) (ivs zr64 ++ zr5).toArray parts := by
  unfold Program.built
  rfl

theorem set5 {A : List Value} (hA : A.length = 64) (a b c d e : Value) :
    (((((A ++ zr5).set 64 a).set 65 b).set 66 c).set 67 d).set 68 e = A ++ [a, b, c, d, e] := by
  unfold zr5
  rw [List.set_append_right _ _ (by omega), List.set_append_right _ _ (by omega), List.set_append_right _ _ (by omega), List.set_append_right _ _ (by omega), List.set_append_right _ _ (by omega), hA]
  rfl

theorem fill5 {A : List Value} (hA : A.length = 64) (a b c d e : Int) :
    Instr.fill (places53.toArray[·]?) (A ++ zr5).toArray [(1, .int .i64 a), (2, .int .i64 b), (3, .int .i64 c), (4, .int .i64 d), (5, .int .i64 e)] = some (A ++ ivs [a, b, c, d, e]).toArray := by
  have h5 : zr5.length = 5 := rfl
  rw [fill_one (off := 64) rfl rfl (by simp [hA, h5])]
  rw [fill_one (off := 65) rfl rfl (by simp [hA, h5])]
  rw [fill_one (off := 66) rfl rfl (by simp [hA, h5])]
  rw [fill_one (off := 67) rfl rfl (by simp [hA, h5])]
  rw [fill_one (off := 68) rfl rfl (by simp [hA, h5])]
  rw [set5 hA]
  rfl

theorem ivs_app (A B : List Int) : ivs (A ++ B) = ivs A ++ ivs B := by simp [ivs]

theorem built53_full {L : List Int} (hl : L.length = 64) (a b c d e : Int) :
    Tryd.prog.built 51 [(0, .agg (ivs L).toArray), (1, .int .i64 a), (2, .int .i64 b), (3, .int .i64 c), (4, .int .i64 d), (5, .int .i64 e)] = some (ivs (stL L a b c d e)).toArray := by
  have hL : (ivs L).length = 64 := by rw [ivs_length, hl]
  have hz : (ivs zr64).length = 64 := by rw [ivs_length, zr64_len]
  have h5 : zr5.length = 5 := rfl
  rw [built53]
  rw [fill_row (off := 0) (size := 64) rfl (by simp [Value.cells, hL]) (by simp [hz, h5])]
  have e1 : ((ivs zr64 ++ zr5).toArray.toList.take 0 ++ (Value.agg (ivs L).toArray).cells.toList ++ (ivs zr64 ++ zr5).toArray.toList.drop (0 + 64)) = ivs L ++ zr5 := by
    rw [List.take_zero, List.nil_append, List.toList_toArray, Nat.zero_add, List.drop_append_of_le_length (by omega), List.drop_of_length_le (by omega), List.nil_append]
    rfl
  rw [e1, fill5 hL, ← ivs_app]
  rfl

theorem built53_five (a b c d e : Int) :
    Tryd.prog.built 51 [(1, .int .i64 a), (2, .int .i64 b), (3, .int .i64 c), (4, .int .i64 d), (5, .int .i64 e)] = some (ivs (stL zr64 a b c d e)).toArray := by
  rw [built53, fill5 (by rw [ivs_length, zr64_len]), ← ivs_app]
  rfl

end Go.Proofs.YtdmlamnonbmboaaDoor
