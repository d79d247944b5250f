/-
  Moves compared. No conditions beyond those that each theorem bears.
  Chess: whether anything can be moved, whether a move is one: walked. No conditions beyond those that each theorem bears.
-/
import Derived.Test.YtdmlamnonbmboaaGreatDoorV32
import Derived.Laws.StructEq
import Derived.Test.YtdmlamnonbmboaaGreatDoorV36
namespace Go.Proofs.YtdmlamnonbmboaaGreatDoor
open Go.RowKit Go.Shelf

abbrev m3 (a b c : Int) : Value := .agg #[.int .i64 a, .int .i64 b, .int .i64 c]
def eq3 (a b c x y z : Int) : Bool := a == x && (b == y && c == z)

theorem fields26 : Tryz.prog.underlying 32 = some (.struct (Tryz.prog.fieldsOf 32)) := by kernel_rfl
theorem eq26 (w : World) (a b c x y z : Int) : (binOp .eql 32 (m3 a b c) (m3 x y z)).run Tryz.prog w = .ok (.bool (eq3 a b c x y z)) w := by
  rw [run_eql_struct, run_equalIn_struct w 9999 32 _ _ fields26 (by kernel_rfl)]
  unfold eq3
  simp [Program.fieldsOf, Tryz.underlying32, Op.eqFields, part, go_sem]
  by_cases h1 : a = x
  · by_cases h2 : b = y
    · by_cases h3 : c = z
      · simp [h1, h2, h3]
      · simp [h1, h2, h3]
    · simp [h1, h2]
  · simp [h1]

theorem guard26 : Tryz.prog.eqGuardType Tryz.prog.depth 32 = false := by kernel_rfl

section
variable {l n : Nat} {ops : Array Oper} {rest : List Oper} {o : Oper} {a : Act} {w : World} {Q : Exit → Act → World → Prop}
theorem wp_eq26 {K : Act → World → Prop} (x y : Operand) (ho : o.op = .binOp .eql 32 x y 32) {a1 a2 a3 b1 b2 b3 : Int}
    (hx : a.eval x = m3 a1 a2 a3) (hy : a.eval y = m3 b1 b2 b3) (h : K (a.put o.dst (.bool (eq3 a1 a2 a3 b1 b2 b3))) w) : o.wp Tryz.prog a w K Q := by
  unfold Oper.wp execOp
  have h1 := run_eqGuard_agg (P := Tryz.prog) w .eql 32 x y #[.int .i64 a1, .int .i64 a2, .int .i64 a3] #[.int .i64 b1, .int .i64 b2, .int .i64 b3] guard26
  have h2 := eq26 w a1 a2 a3 b1 b2 b3
  simp only [ho, hx, hy, Sem.run_bind, h1, h2, Result.andThen_ok]
  exact h
theorem wpList_eq26 (hgd : o.guard = none) (x y : Operand) (ho : o.op = .binOp .eql 32 x y 32) {a1 a2 a3 b1 b2 b3 : Int}
    (hx : a.eval x = m3 a1 a2 a3) (hy : a.eval y = m3 b1 b2 b3)
    (h : wpList Tryz.prog ops Q rest (a.put o.dst (.bool (eq3 a1 a2 a3 b1 b2 b3))) w) : wpList Tryz.prog ops Q (o :: rest) a w :=
  wpList_plain hgd fun _ hK => wp_eq26 x y ho hx hy (hK _ _ h)
theorem wpListIn_eq26 (hgd : o.guard = none) (x y : Operand) (ho : o.op = .binOp .eql 32 x y 32) {a1 a2 a3 b1 b2 b3 : Int}
    (hx : a.eval x = m3 a1 a2 a3) (hy : a.eval y = m3 b1 b2 b3)
    (h : wpListIn (Fence.wide.inRound l) n Tryz.prog ops Q rest (a.put o.dst (.bool (eq3 a1 a2 a3 b1 b2 b3))) w) : wpListIn (Fence.wide.inRound l) n Tryz.prog ops Q (o :: rest) a w :=
  wpListIn_plain hgd fun _ hK => oper_round (fun c e => by rw [ho] at e; cases e) (wp_eq26 x y ho hx hy (hK _ _ h))
end

end Go.Proofs.YtdmlamnonbmboaaGreatDoor

namespace Go.Proofs.YtdmlamnonbmboaaGreatDoor
open Go.RowKit Go.Shelf

theorem movesP_seq (sb b : Nat) (p : Ps) (hM : MayP p) : SeqO Tryz.prog 60 #[.pointer (some ⟨sb, 0, none⟩)] MvG (mvs p) (MlR sb b p.Z (p.t : Nat) (p.k : Nat) p.e (p.h : Nat) (p.f : Nat)) (MlT sb b) :=
  moves1_seq sb b p.Z p.t p.k p.e p.h p.f hM.t1 hM.st hM.cas hM.pas (kf p.Z p.t) (kf_kg hM.st p.t)

/-- Whether such a move is one. -/
def hasB (l : List (Nat × Nat × Nat)) (a b c : Int) : Bool := l.any fun m => eq3 (m.1 : Nat) (m.2.1 : Nat) (m.2.2 : Nat) a b c
theorem hasB_nil (a b c : Int) : hasB [] a b c = false := rfl
theorem hasB_snoc (l : List (Nat × Nat × Nat)) (m : Nat × Nat × Nat) (a b c : Int) : hasB (l ++ [m]) a b c = (hasB l a b c || eq3 (m.1 : Nat) (m.2.1 : Nat) (m.2.2 : Nat) a b c) := by unfold hasB; rw [List.any_append]; simp
theorem hasB_pre {s L : List (Nat × Nat × Nat)} {a b c : Int} (h : s <+: L) (hs : hasB s a b c = true) : hasB L a b c = true := by
  obtain ⟨r, rfl⟩ := h
  unfold hasB at *
  rw [List.any_append, hs]; rfl

attribute [local irreducible] mvs hasB eq3
attribute [local go_sem] Oper.semAt_some wide_fn wide_fn0 wide_depth

set_option maxRecDepth 100000 in
set_option maxHeartbeats 4000000 in
theorem canMove_any (b : Nat) (p : Ps) (hM : MayP p) (w : World) (hs : Sb w b p.Z (p.t : Nat) (p.k : Nat) p.e (p.h : Nat) (p.f : Nat)) (hT : TabS w) (hZ : TzT w) :
    Calls Tryz.prog 57 #[.pointer (some ⟨b, 0, none⟩)] w fun r w' => r = .returned (.bool (!(mvs p).isEmpty)) ∧ Below w.heap.size w w' := by
  have HSQ := hide (fun sb => movesP_seq sb b p hM)
  obtain ⟨XS, hXS⟩ : ∃ XS, mvs p = XS := ⟨_, rfl⟩
  rw [hXS] at HSQ ⊢
  obtain ⟨w1, hw1⟩ : ∃ w1, w.alloc (.cells #[.bool false] 4) = w1 := ⟨_, rfl⟩
  obtain ⟨g, hg⟩ : ∃ g, w.heap.size = g := ⟨_, rfl⟩
  have B1 : Below w.heap.size w w1 := by rw [← hw1]; exact (Below.refl _ _).alloc (Nat.le_refl _) _
  have V1 : Vb w1 g 4 [.bool false] := by rw [← hw1, ← hg]; exact Vb.new w 4 _
  have hg1 : g < w1.heap.size := V1.lt
  have HR2 := hide (MlR.new (hs.mono B1) (hT.mono B1) (hZ.mono B1))
  have HBL : Hid (b < g ∧ 1 < g ∧ 2 < g) := hide (by have := hs.lt; have := hT.lt; have := hZ.lt; omega)
  have HB1 := hide B1
  obtain ⟨w2, hw2⟩ : ∃ w2, w1.alloc (.cells #[.pointer (some ⟨b, 0, none⟩)] 80) = w2 := ⟨_, rfl⟩
  rw [hw2] at HR2
  have B2 : Below w1.heap.size w1 w2 := by rw [← hw2]; exact (Below.refl _ _).alloc (Nat.le_refl _) _
  have HV2 := hide (V1.mono B2)

  have HZ2 : Hid (g < w1.heap.size ∧ w1.heap.size < w2.heap.size) := hide ⟨hg1, by rw [← hw2]; simp⟩
  have HB2 : Hid (Below w.heap.size w w2) := hide (HB1.out.trans (B2.mono HB1.out.size))
  have HGW : Hid (w.heap.size ≤ g) := hide (by omega)
  clear hs hT hZ hM hXS B1 V1 B2 hg1
  refine (callsIn_wide (n := 3)).1 ?_
  refine callsIn_of_wp_marks Tryz.func57 rfl trivial ?_ rfl
  simp only [Tryz.ntmps57, List.size_toArray, List.length_cons, List.length_nil, Nat.reduceAdd, Nat.reduceSub, Array.replicate_succ, Array.replicate_zero, List.push_toArray, List.append_toArray, List.nil_append, List.cons_append]
  refine wpIn_wide.2 ?_
  go_upto_region 1 with fail
  try rw [hg]
  clear hw1
  go_wp2_with fail
  refine (moves_any b _).mono ?_
  rintro r w5 ⟨rfl, hw5⟩
  rw [hw2] at hw5
  subst w5
  clear hw2
  go_wp2_with fail
  refine (wpIn_wide (n := 1)).1 (wp_range_o (gf := 60) (lb := #[.pointer (some ⟨w1.heap.size, 0, none⟩)]) (G := MvG) (xs := XS) (R := MlR w1.heap.size b p.Z (p.t : Nat) (p.k : Nat) p.e (p.h : Nat) (p.f : Nat)) (T := MlT w1.heap.size b) (by simp [Act.eval]) (enters_of Tryz.func60 (by kernel_rfl) rfl)
    (HSQ.out w1.heap.size) (fun j hj => HR2.out.lt j hj) (fun A hA => HR2.out.keeps (X := fun _ => False) (Keeps.of_all hA) (fun _ _ e => e)) (fun x args W' hG => by rw [hG]; rfl)
    (fun O s W' => s = [] ∧ (∀ j, O j → j = g) ∧ O g ∧ Vb W' g 4 [.bool false]) (fun d O W' => d = .ret ∧ XS.isEmpty = false ∧ (∀ j, O j → j = g) ∧ O g ∧ Vb W' g 4 [.bool true]) (fun j => j = g) ?hC ⟨rfl, fun _ h => h, rfl, HV2.out⟩ ?round ?done ?stop)
  case hC =>
    have z2 := HZ2.out
    have zb := HBL.out
    have nT : ¬ MlT w1.heap.size b g := by
      rintro (h | h | h | h) <;> omega
    intro d
    refine ⟨?_, ?_, ?_, ?_⟩
    · rintro O s A ⟨_, h1, _, h3⟩ j hj
      obtain rfl := h1 j hj
      exact ⟨h3.lt, nT⟩
    · rintro O A ⟨_, _, h1, _, h3⟩ j hj
      obtain rfl := h1 j hj
      exact ⟨h3.lt, nT⟩
    · rintro O s A B ⟨h0, h1, h2, h3⟩ hkk
      exact ⟨h0, h1, h2, h3.keeps hkk (fun e => e.2 h2)⟩
    · rintro O A B ⟨h0, hx, h1, h2, h3⟩ hkk
      exact ⟨h0, hx, h1, h2, h3.keeps hkk (fun e => e.2 h2)⟩
  case round =>
    rintro l2 O s m args W6 hl2 _ ⟨rfl, hO, hOg, hV6⟩ hOl hK6 _ hpre hG hsz6
    obtain rfl : args = #[mvV m] := hG
    have HNE : Hid (XS.isEmpty = false) := hide (by
      obtain ⟨r, rfl⟩ := hpre
      rfl)
    have HO := hide hO
    have HOg := hide hOg
    have HL : Hid (g < l2) := hide (by have := HZ2.out; omega)
    have HV6 := hide hV6
    clear hO hOg hV6 hOl hK6 hpre hsz6 hl2
    gi_wp2
    refine ⟨Below.refl _ _, ?_⟩
    intro W7 hk7
    have V7 := HV6.out.keeps hk7 (fun e => by have := HL.out; omega)
    have c7 := V7.cell (i := 0) rfl
    have f7 := V7.frozen 0
    have HV7 := hide V7
    clear V7 HV6 hk7
    gi_wp2
    exact ⟨(Keeps.set1 _ _ _ _).mono (fun j _ e => by rw [e]; exact HOg.out), O, fun _ _ h => h, rfl, HNE.out, HO.out, HOg.out, HV7.out.set 0 _⟩
  case done =>
    rintro D O W6 hD ⟨hnil, hO, hOg, hV6⟩ hk6 hm6 hKd
    have z2 := HZ2.out
    have nD : ¬ O D := fun h => by have := hO _ h; omega
    have HM6 : Hid (Mks O w.heap.size (W6.setCell ⟨g, 0, none⟩ (.bool false)) [{ target := .collected D, args := #[] }]) := hide ((Mks.nil O w.heap.size (W6.setCell ⟨g, 0, none⟩ (.bool false))).push (n := w2.heap.size) (fun Ds hd E hE => by
      cases Ds with
      | nil => cases hE
      | cons _ _ => simp at hd) (by omega) (by have := HGW.out; omega) nD (((Keeps.set1 W6 g 0 (.bool false)).block D (Array.getElem?_eq_some_iff.1 hKd).1 (fun e => by omega)).trans hKd))
    have HO := hide hO
    have HOg := hide hOg
    have c6 := hV6.cell (i := 0) rfl
    have f6 := hV6.frozen 0
    have HV7 := hide (hV6.set 0 (.bool false))
    have HNI : Hid ((!XS.isEmpty) = false) := hide (by rw [hnil]; rfl)
    have HKx : Hid (Keeps (fun j => j = g) w2 (W6.setCell ⟨g, 0, none⟩ (.bool false))) := hide (hk6.trans (Keeps.set1 _ _ _ _))
    clear hnil hO hOg hV6 hk6 hm6 hKd
    go_wp2
    refine leaves_mks (w := W6.setCell ⟨g, 0, none⟩ (.bool false)) HM6.out (fun w9 hk9 => ?_)
    have hV9 := HV7.out.keeps hk9 (fun e => e.2 HOg.out)
    have hka : Below w.heap.size w (W6.setCell ⟨g, 0, none⟩ (.bool false)) := HB2.out.trans (HKx.out.below HB2.out.size (fun j hj e => by have := HGW.out; omega))
    have hkb : Below w.heap.size (W6.setCell ⟨g, 0, none⟩ (.bool false)) w9 := hk9.below hka.size (fun j hj e => by have := e.1; omega)
    exact ⟨_, results_b1 rfl _ _ g rfl (hV9.cell (i := 0) rfl), by rw [HNI.out], hka.trans hkb⟩
  case stop =>
    rintro d D O W6 hD ⟨rfl, hne, hO, hOg, hV6⟩ hk6 hm6 hKd
    have z2 := HZ2.out
    have nD : ¬ O D := fun h => by have := hO _ h; omega
    have HM6 : Hid (Mks O w.heap.size W6 [{ target := .collected D, args := #[] }]) := hide ((Mks.nil O w.heap.size W6).push (n := w2.heap.size) (fun Ds hd E hE => by
      cases Ds with
      | nil => cases hE
      | cons _ _ => simp at hd) (by omega) (by have := HGW.out; omega) nD (hKd))
    have HO := hide hO
    have HOg := hide hOg
    have HV7 := hide hV6
    have HNI : Hid ((!XS.isEmpty) = true) := hide (by rw [hne]; rfl)
    have HKx : Hid (Keeps (fun j => j = g) w2 W6) := hide hk6
    clear hne hO hOg hV6 hk6 hm6 hKd
    refine wpIn_wide.2 ?_
    go_wp2
    refine leaves_mks HM6.out (fun w9 hk9 => ?_)
    have hV9 := HV7.out.keeps hk9 (fun e => e.2 HOg.out)
    have hka : Below w.heap.size w (W6) := HB2.out.trans (HKx.out.below HB2.out.size (fun j hj e => by have := HGW.out; omega))
    have hkb : Below w.heap.size (W6) w9 := hk9.below hka.size (fun j hj e => by have := e.1; omega)
    exact ⟨_, results_b1 rfl _ _ g rfl (hV9.cell (i := 0) rfl), by rw [HNI.out], hka.trans hkb⟩

set_option maxRecDepth 100000 in
set_option maxHeartbeats 4000000 in
theorem has_any (b : Nat) (p : Ps) (hM : MayP p) (x y z : Int) (w : World) (hs : Sb w b p.Z (p.t : Nat) (p.k : Nat) p.e (p.h : Nat) (p.f : Nat)) (hT : TabS w) (hZ : TzT w) :
    Calls Tryz.prog 20 #[.pointer (some ⟨b, 0, none⟩), m3 x y z] w fun r w' => r = .returned (.bool (hasB (mvs p) x y z)) ∧ Below w.heap.size w w' := by
  have HSQ := hide (fun sb => movesP_seq sb b p hM)
  obtain ⟨XS, hXS⟩ : ∃ XS, mvs p = XS := ⟨_, rfl⟩
  rw [hXS] at HSQ ⊢
  obtain ⟨w1, hw1⟩ : ∃ w1, (w.alloc (.cells #[.int .i64 x, .int .i64 y, .int .i64 z] 32)).alloc (.cells #[.bool false] 4) = w1 := ⟨_, rfl⟩
  obtain ⟨g, hg⟩ : ∃ g, w.heap.size + 1 = g := ⟨_, rfl⟩
  have B1 : Below w.heap.size w w1 := by rw [← hw1]; exact ((Below.refl _ _).alloc (Nat.le_refl _) _).alloc (by simp) _
  have V1 : Vb w1 g 4 [.bool false] := by
    rw [← hw1, ← hg]
    have := Vb.new (w.alloc (.cells #[.int .i64 x, .int .i64 y, .int .i64 z] 32)) 4 [.bool false]
    rw [World.size_alloc] at this
    exact this
  have N1 : Vb w1 w.heap.size 32 [.int .i64 x, .int .i64 y, .int .i64 z] := by rw [← hw1]; exact (Vb.new w 32 _).old _
  have hb26 : b < w.heap.size ∧ 1 < w.heap.size ∧ 2 < w.heap.size := by have := hs.lt; have := hT.lt; have := hZ.lt; omega
  have hg1 : g < w1.heap.size := V1.lt
  have HR2 := hide (MlR.new (hs.mono B1) (hT.mono B1) (hZ.mono B1))
  have HBL : Hid (b < g ∧ 1 < g ∧ 2 < g) := hide (by have := hs.lt; have := hT.lt; have := hZ.lt; omega)
  have HB1 := hide B1
  obtain ⟨w2, hw2⟩ : ∃ w2, w1.alloc (.cells #[.pointer (some ⟨b, 0, none⟩)] 80) = w2 := ⟨_, rfl⟩
  rw [hw2] at HR2
  have B2 : Below w1.heap.size w1 w2 := by rw [← hw2]; exact (Below.refl _ _).alloc (Nat.le_refl _) _
  have HV2 := hide (V1.mono B2)
  have HN2 := hide (N1.mono B2)
  clear N1 hb26
  have HZ2 : Hid (g < w1.heap.size ∧ w1.heap.size < w2.heap.size) := hide ⟨hg1, by rw [← hw2]; simp⟩
  have HB2 : Hid (Below w.heap.size w w2) := hide (HB1.out.trans (B2.mono HB1.out.size))
  have HGW : Hid (w.heap.size ≤ g) := hide (by omega)
  clear hs hT hZ hM hXS B1 V1 B2 hg1
  refine (callsIn_wide (n := 3)).1 ?_
  refine callsIn_of_wp_marks Tryz.func20 rfl trivial ?_ rfl
  simp only [Tryz.ntmps20, List.size_toArray, List.length_cons, List.length_nil, Nat.reduceAdd, Nat.reduceSub, Array.replicate_succ, Array.replicate_zero, List.push_toArray, List.append_toArray, List.nil_append, List.cons_append]
  refine wpIn_wide.2 ?_
  go_upto_region 1 with fail
  try rw [hg]
  clear hw1
  go_wp2_with fail
  refine (moves_any b _).mono ?_
  rintro r w5 ⟨rfl, hw5⟩
  rw [hw2] at hw5
  subst w5
  clear hw2
  go_wp2_with fail
  refine (wpIn_wide (n := 1)).1 (wp_range_o (gf := 60) (lb := #[.pointer (some ⟨w1.heap.size, 0, none⟩)]) (G := MvG) (xs := XS) (R := MlR w1.heap.size b p.Z (p.t : Nat) (p.k : Nat) p.e (p.h : Nat) (p.f : Nat)) (T := MlT w1.heap.size b) (by simp [Act.eval]) (enters_of Tryz.func60 (by kernel_rfl) rfl)
    (HSQ.out w1.heap.size) (fun j hj => HR2.out.lt j hj) (fun A hA => HR2.out.keeps (X := fun _ => False) (Keeps.of_all hA) (fun _ _ e => e)) (fun x args W' hG => by rw [hG]; rfl)
    (fun O s W' => hasB s x y z = false ∧ (∀ j, O j → j = g) ∧ O g ∧ Vb W' g 4 [.bool false]) (fun d O W' => d = .ret ∧ hasB XS x y z = true ∧ (∀ j, O j → j = g) ∧ O g ∧ Vb W' g 4 [.bool true]) (fun j => j = g) ?hC ⟨hasB_nil _ _ _, fun _ h => h, rfl, HV2.out⟩ ?round ?done ?stop)
  case hC =>
    have z2 := HZ2.out
    have zb := HBL.out
    have nT : ¬ MlT w1.heap.size b g := by
      rintro (h | h | h | h) <;> omega
    intro d
    refine ⟨?_, ?_, ?_, ?_⟩
    · rintro O s A ⟨_, h1, _, h3⟩ j hj
      obtain rfl := h1 j hj
      exact ⟨h3.lt, nT⟩
    · rintro O A ⟨_, _, h1, _, h3⟩ j hj
      obtain rfl := h1 j hj
      exact ⟨h3.lt, nT⟩
    · rintro O s A B ⟨h0, h1, h2, h3⟩ hkk
      exact ⟨h0, h1, h2, h3.keeps hkk (fun e => e.2 h2)⟩
    · rintro O A B ⟨h0, hx, h1, h2, h3⟩ hkk
      exact ⟨h0, hx, h1, h2, h3.keeps hkk (fun e => e.2 h2)⟩
  case round =>
    rintro l2 O s m args W6 hl2 _ ⟨hno, hO, hOg, hV6⟩ hOl hK6 hOm hpre hG hsz6
    obtain rfl : args = #[mvV m] := hG
    have HSN := hide (hasB_snoc s m x y z)
    have HPR : Hid (hasB (s ++ [m]) x y z = true → hasB XS x y z = true) := hide (hasB_pre hpre)
    have HNO := hide hno
    have HO := hide hO
    have HOg := hide hOg
    have HL : Hid (g < l2 ∧ l2 < W6.heap.size) := hide (by have := HZ2.out; omega)
    have VN6 := HN2.out.keeps hK6 (fun e => by omega)
    obtain ⟨gA, hgA⟩ : ∃ gA, W6.heap.size = gA := ⟨_, rfl⟩
    obtain ⟨WB, hWB⟩ : ∃ WB, W6.alloc (.cells #[.int .i64 0, .int .i64 0, .int .i64 0] 32) = WB := ⟨_, rfl⟩
    have VB : Vb WB gA 32 [.int .i64 0, .int .i64 0, .int .i64 0] := by rw [← hWB, ← hgA]; exact Vb.new W6 32 _
    have BB : Below W6.heap.size W6 WB := by rw [← hWB]; exact (Below.refl _ _).alloc (Nat.le_refl _) _
    have HV6 := hide (hV6.mono BB)
    have HN6 := hide (VN6.mono BB)
    have HBB := hide BB
    have HGA := hide hgA
    clear hno hO hOg hV6 hOl hK6 hOm hpre hsz6 hl2 BB VN6
    gi_wp2_with (refine wpListIn_store_vb rfl 32 (.tmp 5) (.tmp 8) rfl gA (mvC m) _ (by simp [Act.eval]) rfl VB rfl row26 (mvC_one m) ?_; intro WC VC KC)
    clear hWB VB
    have BC : Below W6.heap.size W6 WC := HBB.out.trans (KC.below HBB.out.size (fun j hj e => by have := HGA.out; omega))
    refine ⟨BC, ?_⟩
    intro W7 hk7
    have zl := HL.out
    have zg := HGA.out
    have K7 : Keeps (fun j => j = gA ∨ j = l2) WB W7 := (KC.mono (fun _ _ e => Or.inl e)).trans (hk7.mono (fun _ _ e => Or.inr e))
    have V7 := HV6.out.keeps K7 (fun e => by omega)
    have N7 := HN6.out.keeps K7 (fun e => by omega)
    have M7 := VC.keeps hk7 (fun e => by omega)
    have c7 := V7.cell (i := 0) rfl
    have f7 := V7.frozen 0
    have n0 := N7.cell (i := 0) rfl
    have n1 := N7.cell (i := 1) rfl
    have n2 := N7.cell (i := 2) rfl
    have m0 := M7.cell (i := 0) rfl
    have m1 := M7.cell (i := 1) rfl
    have m2 := M7.cell (i := 2) rfl
    have HV7 := hide V7
    clear V7 N7 M7 HV6 HN6 hk7 K7 BC KC VC zl zg hgA
    cases he : eq3 (m.1 : Nat) (m.2.1 : Nat) (m.2.2 : Nat) x y z with
    | true =>
      have HT : Hid (hasB XS x y z = true) := hide (HPR.out (by rw [HSN.out, he, Bool.or_true]))
      have HE := hide he
      clear he
      gi_wp2_with (refine wpListIn_eq26 rfl (.tmp 9) (.tmp 10) rfl rfl rfl ?_; rw [HE.out])
      exact ⟨(Keeps.set1 _ _ _ _).mono (fun j _ e => by rw [e]; exact HOg.out), O, fun _ _ h => h, rfl, HT.out, HO.out, HOg.out, HV7.out.set 0 _⟩
    | false =>
      have HF : Hid (hasB (s ++ [m]) x y z = false) := hide (by rw [HSN.out, he, HNO.out]; rfl)
      have HE := hide he
      clear he
      gi_wp2_with (refine wpListIn_eq26 rfl (.tmp 9) (.tmp 10) rfl rfl rfl ?_; rw [HE.out])
      exact ⟨Keeps.refl _ _, O, fun _ _ h => h, HF.out, HO.out, HOg.out, HV7.out⟩
  case done =>
    rintro D O W6 hD ⟨hnil, hO, hOg, hV6⟩ hk6 hm6 hKd
    have z2 := HZ2.out
    have nD : ¬ O D := fun h => by have := hO _ h; omega
    have HM6 : Hid (Mks O w.heap.size (W6.setCell ⟨g, 0, none⟩ (.bool false)) [{ target := .collected D, args := #[] }]) := hide ((Mks.nil O w.heap.size (W6.setCell ⟨g, 0, none⟩ (.bool false))).push (n := w2.heap.size) (fun Ds hd E hE => by
      cases Ds with
      | nil => cases hE
      | cons _ _ => simp at hd) (by omega) (by have := HGW.out; omega) nD (((Keeps.set1 W6 g 0 (.bool false)).block D (Array.getElem?_eq_some_iff.1 hKd).1 (fun e => by omega)).trans hKd))
    have HO := hide hO
    have HOg := hide hOg
    have c6 := hV6.cell (i := 0) rfl
    have f6 := hV6.frozen 0
    have HV7 := hide (hV6.set 0 (.bool false))
    have HNI : Hid (hasB XS x y z = false) := hide hnil
    have HKx : Hid (Keeps (fun j => j = g) w2 (W6.setCell ⟨g, 0, none⟩ (.bool false))) := hide (hk6.trans (Keeps.set1 _ _ _ _))
    clear hnil hO hOg hV6 hk6 hm6 hKd
    go_wp2
    refine leaves_mks (w := W6.setCell ⟨g, 0, none⟩ (.bool false)) HM6.out (fun w9 hk9 => ?_)
    have hV9 := HV7.out.keeps hk9 (fun e => e.2 HOg.out)
    have hka : Below w.heap.size w (W6.setCell ⟨g, 0, none⟩ (.bool false)) := HB2.out.trans (HKx.out.below HB2.out.size (fun j hj e => by have := HGW.out; omega))
    have hkb : Below w.heap.size (W6.setCell ⟨g, 0, none⟩ (.bool false)) w9 := hk9.below hka.size (fun j hj e => by have := e.1; omega)
    exact ⟨_, results_b1 rfl _ _ g rfl (hV9.cell (i := 0) rfl), by rw [HNI.out], hka.trans hkb⟩
  case stop =>
    rintro d D O W6 hD ⟨rfl, hne, hO, hOg, hV6⟩ hk6 hm6 hKd
    have z2 := HZ2.out
    have nD : ¬ O D := fun h => by have := hO _ h; omega
    have HM6 : Hid (Mks O w.heap.size W6 [{ target := .collected D, args := #[] }]) := hide ((Mks.nil O w.heap.size W6).push (n := w2.heap.size) (fun Ds hd E hE => by
      cases Ds with
      | nil => cases hE
      | cons _ _ => simp at hd) (by omega) (by have := HGW.out; omega) nD (hKd))
    have HO := hide hO
    have HOg := hide hOg
    have HV7 := hide hV6
    have HNI : Hid (hasB XS x y z = true) := hide hne
    have HKx : Hid (Keeps (fun j => j = g) w2 W6) := hide hk6
    clear hne hO hOg hV6 hk6 hm6 hKd
    refine wpIn_wide.2 ?_
    go_wp2
    refine leaves_mks HM6.out (fun w9 hk9 => ?_)
    have hV9 := HV7.out.keeps hk9 (fun e => e.2 HOg.out)
    have hka : Below w.heap.size w (W6) := HB2.out.trans (HKx.out.below HB2.out.size (fun j hj e => by have := HGW.out; omega))
    have hkb : Below w.heap.size (W6) w9 := hk9.below hka.size (fun j hj e => by have := e.1; omega)
    exact ⟨_, results_b1 rfl _ _ g rfl (hV9.cell (i := 0) rfl), by rw [HNI.out], hka.trans hkb⟩

end Go.Proofs.YtdmlamnonbmboaaGreatDoor
