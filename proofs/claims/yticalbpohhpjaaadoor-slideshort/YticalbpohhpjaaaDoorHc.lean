/-
  Is a tray in a ring? No conditions beyond those that each theorem bears.
-/
import Derived.Test.YticalbpohhpjaaaDoorCo
import Derived.Laws.StructEq
import Derived.ChangeKeysEq
namespace Go.Proofs.YticalbpohhpjaaaDoor
open Go.RowKit

/-- What Home's closures have captured: a tray. -/
structure HmI (W H N tp tcb tc : Nat) (T : List Int) (g : Nat) (w : World) : Prop where
  ty : Ty w tp W H (some ⟨tcb, 0, none⟩) N tc g
  bw : Bw w tcb N tc T

theorem HmI.keeps {W H N tp tcb tc g : Nat} {T : List Int} {X : Nat → Prop} {w w' : World} (h : HmI W H N tp tcb tc T g w) (hk : Keeps X w w') (h1 : ¬ X tp) (h2 : ¬ X tcb) : HmI W H N tp tcb tc T g w' := ⟨h.ty.keeps hk h1, h.bw.keeps hk h2⟩

theorem HmI.below {W H N tp tcb tc g : Nat} {T : List Int} {w w' : World} (h : HmI W H N tp tcb tc T g w) (hk : Below w.heap.size w w') : HmI W H N tp tcb tc T g w' := h.keeps (X := fun _ => False) (Keeps.of_all hk) (fun h => h) (fun h => h)

theorem six_form {S : List Int} (h : S.length = 6) : ∃ a b c d e f, S = [a, b, c, d, e, f] := by
  match S, h with
  | [a, b, c, d, e, f], _ => exact ⟨a, b, c, d, e, f, rfl⟩

theorem arr3 : Tryd.prog.underlying 3 = some (.int .i64) := Tryd.underlying3
theorem info3 : ∃ i, Tryd.prog.info? 3 = some i := info_of_underlying arr3
theorem arr71 : Tryd.prog.underlying 71 = some (.array 6 3) := by kernel_rfl
theorem cells3 : Tryd.prog.cellsOf 3 = 1 := by kernel_rfl

theorem dec_cons (a b : Int) (S T : List Int) : decide (a :: S = b :: T) = (a == b && decide (S = T)) := by
  by_cases h : a = b <;> simp [h]

theorem item71 (w : World) (xs ys : Array Value) (i : Nat) (is : List Nat) (a b : Int) (ha : xs[i]? = some (.int .i64 a)) (hb : ys[i]? = some (.int .i64 b)) :
    (Op.eqItems 9999 3 1 xs ys (i :: is)).run Tryd.prog w = if (a == b) = true then (Op.eqItems 9999 3 1 xs ys is).run Tryd.prog w else .ok false w := by
  have p1 : (part 3 xs (i * 1)).run Tryd.prog w = .ok (.int .i64 a) w := by rw [Nat.mul_one]; simp [part, ha, go_sem]
  have p2 : (part 3 ys (i * 1)).run Tryd.prog w = .ok (.int .i64 b) w := by rw [Nat.mul_one]; simp [part, hb, go_sem]
  have p3 : (Op.equalIn 9999 3 (.int .i64 a) (.int .i64 b)).run Tryd.prog w = .ok (a == b) w := run_equalIn_int w 9998 3 .i64 .i64 a b Tryd.underlying3
  simp only [Op.eqItems, Sem.run_bind, p1, p2, p3, Result.andThen_ok]
  cases h : (a == b) <;> simp

theorem eq71 (w : World) {S T : List Int} (hS : S.length = 6) (hT : T.length = 6) : (binOp .eql 71 (.agg (ivs S).toArray) (.agg (ivs T).toArray)).run Tryd.prog w = .ok (.bool (decide (S = T))) w := by
  obtain ⟨a, b, c, d, e, f, rfl⟩ := six_form hS
  obtain ⟨a', b', c', d', e', f', rfl⟩ := six_form hT
  obtain ⟨i3, hi3⟩ := info3
  rw [run_eql_struct, show (10000 : Nat) = 9999 + 1 from rfl, run_equalIn_array w 9999 _ _ arr71 hi3, cells3]
  rw [show List.range 6 = [0, 1, 2, 3, 4, 5] from rfl]
  rw [item71 w _ _ 0 _ a a' rfl rfl, item71 w _ _ 1 _ b b' rfl rfl, item71 w _ _ 2 _ c c' rfl rfl, item71 w _ _ 3 _ d d' rfl rfl, item71 w _ _ 4 _ e e' rfl rfl, item71 w _ _ 5 _ f f' rfl rfl]
  simp only [dec_cons, Op.eqItems, Sem.run_pure]
  cases (a == a') <;> cases (b == b') <;> cases (c == c') <;> cases (d == d') <;> cases (e == e') <;> cases (f == f') <;> simp

theorem guard71 : Tryd.prog.eqGuardType Tryd.prog.depth 71 = false := by kernel_rfl

/-- Two rows of six compared, in a region that draws. -/
theorem yieldsIf_eq71 {ops : Array Oper} {S : World → Prop} {op : Oper} {a : Act} (hw : Region.wanted op (yielded ops a.tmps) = true) (x y : Operand) (ho : op.op = .binOp .eql 71 x y 71) {s t : List Int} (hs : s.length = 6) (ht : t.length = 6)
    (hx : a.eval x = .agg (ivs s).toArray) (hy : a.eval y = .agg (ivs t).toArray) : YieldsIf Tryd.prog ops S op (.bool (decide (s = t))) a :=
  .inl ⟨hw, fun w _ => by
    unfold execOp
    have h1 := run_eqGuard_agg (P := Tryd.prog) w .eql 71 x y (ivs s).toArray (ivs t).toArray guard71
    have h2 := eq71 w hs ht
    simp only [ho, hx, hy, Sem.run_bind, h1, h2, Result.andThen_ok, Sem.run_pure]⟩

set_option maxHeartbeats 4000000 in
theorem same1_any (W H N tp tcb tc ub uc q g : Nat) (T U : List Int) (w : World) (h : HmI W H N tp tcb tc T g w) (hU : Bw w ub N uc U) (hN : 0 < N ∧ N ≤ 6) :
    Calls Tryd.prog 44 #[.agg (trA W H (some ⟨ub, 0, none⟩) N uc q), .pointer (some ⟨tp, 0, none⟩)] w fun e w' => e = .returned (.bool (decide (U = T))) ∧ Below w.heap.size w w' := by
  obtain ⟨w1, hw1⟩ : ∃ w1, w.alloc (.cells (trA W H (some ⟨ub, 0, none⟩) N uc q) 55) = w1 := ⟨_, rfl⟩
  have b1 : Below w.heap.size w w1 := by rw [← hw1]; exact (Below.refl _ w).alloc (Nat.le_refl _) _
  have K1 : Ty w1 w.heap.size W H (some ⟨ub, 0, none⟩) N uc q := by rw [← hw1]; exact Ty.new _ _ _ _ _ _ _
  have HU1 := hide (hU.mono b1)
  have h1 := h.below b1
  have T1 := h1.ty
  have HH1 := hide h1
  have HB1 := hide b1
  have HE : Hid (decide (pad6 U = pad6 T) = decide (U = T)) := hide (by
    rw [decide_eq_decide]
    exact ⟨fun e => pad6_inj (by rw [hU.rd.len, h.bw.rd.len]) e, fun e => by rw [e]⟩)
  clear h hU b1 h1
  go_enter Tryd.func44, Tryd.ntmps44
  go_upto_region 1 with fail
  clear hw1
  refine wp_region_held (S := fun W4 => Keeps (fun _ => False) w1 W4) (by kernel_rfl) ?_
  change wpAnyH _ _ _ _ _ _ _ _ (World.drew _)
  have SW : Keeps (fun _ => False) w1 w1.drew := (Keeps.refl _ w1).drew
  refine wpAnyH_take (i := 0) (v := .agg (trA W H (some ⟨ub, 0, none⟩) N uc q)) rfl (by kernel_rfl) (by kernel_rfl) (by kernel_rfl) (fun _ _ _ h => h) (yieldsIf_load_mid (by rfl) 55 _ rfl w.heap.size 0 (by rfl) (trA W H (some ⟨ub, 0, none⟩) N uc q).toList _ (fun W4 hW4 => World.rangeAt_of_block (K1.keeps hW4 (fun h => h)) 0 4) Tryd.underlying55 rfl (by exact size55)) SW ?_
  go_simp
  refine wpAnyH_take (i := 2) (v := .agg (trA W H (some ⟨tcb, 0, none⟩) N tc g)) rfl (by kernel_rfl) (by kernel_rfl) (by kernel_rfl) (fun _ _ _ h => h) (yieldsIf_load_mid (by rfl) 55 _ rfl tp 0 (by rfl) (trA W H (some ⟨tcb, 0, none⟩) N tc g).toList _ (fun W4 hW4 => World.rangeAt_of_block (T1.keeps hW4 (fun h => h)) 0 4) Tryd.underlying55 rfl (by exact size55)) SW ?_
  go_simp
  refine wpAnyH_ready (rs := [1]) (by kernel_rfl) (by simp) ?_
  refine AllReadyH.cons rfl (fun K1 hK1 => ?_) AllReadyH.nil
  go_simp
  refine (stones_any W H N uc ub 0 q U _ hN (HU1.out.keeps SW (fun h => h)).rd).mono ?_
  rintro e w5 ⟨rfl, b5⟩
  refine hK1.out _ _ (SW.trans (Keeps.of_all b5)) (fun SW => ?_)
  clear hK1 K1 b5
  go_simp
  refine wpAnyH_ready (rs := [3]) (by kernel_rfl) (by simp) ?_
  refine AllReadyH.cons rfl (fun K1 hK1 => ?_) AllReadyH.nil
  go_simp
  refine (stones_any W H N tc tcb 0 g T _ hN (HH1.out.keeps SW (fun h => h) (fun h => h)).bw.rd).mono ?_
  rintro e w6 ⟨rfl, b6⟩
  refine hK1.out _ _ (SW.trans (Keeps.of_all b6)) (fun SW => ?_)
  clear hK1 K1 b6
  go_simp
  have hu6 : (pad6 U).length = 6 := pad6_len (by have := HU1.out.rd.len; omega)
  have ht6 : (pad6 T).length = 6 := pad6_len (by have := HH1.out.bw.rd.len; omega)
  refine wpAnyH_take (i := 4) (v := .bool (decide (pad6 U = pad6 T))) rfl (by kernel_rfl) (by kernel_rfl) (by kernel_rfl) (fun _ _ _ h => h) (yieldsIf_eq71 (by rfl) (.tmp 5) (.tmp 7) rfl hu6 ht6 rfl rfl) SW ?_
  go_simp
  rw [HE.out]
  refine wpAnyH_ready (rs := [5]) (by kernel_rfl) (by simp) ?_
  refine AllReadyH.cons rfl (fun K1 hK1 => ?_) AllReadyH.nil
  go_simp
  refine hK1.out _ _ SW (fun SW => ?_)
  clear hK1 K1
  go_simp
  refine wpAnyH_done (by kernel_rfl) ?_ _
  go_wp2_with fail
  go_ret
  exact ⟨rfl, (HB1.out.trans ((SW.below (Nat.le_refl _) (fun _ _ h => h)).mono HB1.out.size))⟩


end Go.Proofs.YticalbpohhpjaaaDoor
