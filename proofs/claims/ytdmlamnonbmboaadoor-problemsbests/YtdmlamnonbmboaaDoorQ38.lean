/-
  Chess: what the document's list of moves asks at each place: mathematics. No conditions beyond those that each theorem bears.
  Chess problems: whether a side is mated, said and walked. No conditions beyond those that each theorem bears.
  Rows of moves: appended to, read. No conditions beyond those that each theorem bears.
-/
import Derived.Test.YtdmlamnonbmboaaDoorQ37
import Derived.Test.YtdmlamnonbmboaaDoorQ17
import Derived.Test.YtdmlamnonbmboaaDoorQ31
import Derived.Test.YtdmlamnonbmboaaDoorQ33
import Derived.Test.YtdmlamnonbmboaaDoorQ34
import Derived.Test.YtdmlamnonbmboaaDoorQ04
import Derived.Test.YtdmlamnonbmboaaDoorQ10
import Derived.Test.YtdmlamnonbmboaaDoorQ30
import Derived.Test.YtdmlamnonbmboaaDoorQ29
namespace Go.Proofs.YtdmlamnonbmboaaDoor
open Go.RowKit Go.Shelf

/-- One's own king behind a move whose piece is left as it is. -/
theorem kg_zero {Z : List Int} {t : Nat} {k e : Int} {f q K : Nat} (ht : t ≤ 1) (hS : Std Z) (hC : Cas Z k) (hP : Pas Z t e) (hK : KgAt Z t K) (hf : f < 64) (hq : q < 64) (ho : ownB Z t f = true) (h : tgB Z t k e f q = true) : KgAt (mvZ Z t e f q 0) t (kgA K f q) := by
  by_cases hb : (zg Z f).natAbs = 1 ∧ edge (q : Int) = true
  · have hn : 2 ∈ inB Z f q := by unfold inB; rw [if_pos hb]; simp
    have h2 := king_after ht hS hC hP hK hf hq ho h hn
    refine ⟨h2.1, fun p hp => ?_⟩
    rw [← h2.2 p hp]
    have h1 := hb.1
    have hc : cI Z f q = none := by unfold cI; rw [if_neg (by omega)]
    have v2 : vl Z t f 2 ≠ pc t 6 := by unfold vl pci pc; rw [if_neg (by omega)]; split <;> omega
    have v0 : vl Z t f 0 ≠ pc t 6 := by unfold vl pc; rw [if_pos rfl]; split <;> omega
    cases htk : tkB Z e f q with
    | false =>
      rw [mvZ_plain hS.1 hf hq hc htk, mvZ_plain hS.1 hf hq hc htk]
      by_cases e1 : p = q
      · rw [if_pos e1, if_pos e1]; exact ⟨fun a => absurd a v0, fun a => absurd a v2⟩
      · rw [if_neg e1, if_neg e1]
    | true =>
      have hta := tk_at ht hS hP hf hq ho h htk
      rw [mvZ_take hS.1 hf hq hc hta.2.2.1 htk, mvZ_take hS.1 hf hq hc hta.2.2.1 htk]
      by_cases e2 : p = bk t q
      · rw [if_pos e2, if_pos e2]
      · rw [if_neg e2, if_neg e2]
        by_cases e1 : p = q
        · rw [if_pos e1, if_pos e1]; exact ⟨fun a => absurd a v0, fun a => absurd a v2⟩
        · rw [if_neg e1, if_neg e1]
  · have hn : 0 ∈ inB Z f q := by unfold inB; rw [if_neg hb]; simp
    exact king_after ht hS hC hP hK hf hq ho h hn

theorem dec_nil {α : Type} {A B : List α} [DecidableEq α] (h : A = [] ↔ B = []) : decide (A = []) = decide (B = []) := by
  rw [decide_eq_decide]; exact h
/-- The document's castlings are the program's. -/
theorem ct_cs {Z : List Int} {t : Nat} (ht : t ≤ 1) (hz : Pz Z) (k : Int) {i : Nat} (hi : i < 4) : ctB Z t k i = csB Z t k i := by
  have hp := cas_pl hi
  have hb : 1 - t = 0 ∨ 1 - t = 1 := by omega
  unfold ctB csB
  rw [dec_nil (atk_nil hz (K := kgP i) hp.2.2.1 hb), dec_nil (atk_nil hz (K := cOv i) hp.2.1 hb), dec_nil (atk_nil hz (K := cTo i) hp.2.2.2.1 hb)]
  cases bitB k i <;> cases (sdP i == t) <;> rfl
/-- Whether one of the first castlings leads there. -/
def caN (Z : List Int) (t : Nat) (k : Int) (q : Nat) : Nat → Bool
  | 0 => false
  | n + 1 => caN Z t k q n || (ctI Z t k n == (q : Int))
theorem caN_four {Z : List Int} {t : Nat} (ht : t ≤ 1) (hz : Pz Z) (k : Int) (q : Nat) : caN Z t k q 4 = casB Z t k q := by
  have h1 : ∀ i, i < 4 → (ctI Z t k i == (q : Int)) = (csB Z t k i && q == cTo i) := by
    intro i hi
    rw [← ct_cs ht hz k hi]
    unfold ctI
    cases ctB Z t k i with
    | true =>
      rw [if_pos rfl, Bool.true_and, Bool.eq_iff_iff, beq_iff_eq, beq_iff_eq]; omega
    | false =>
      rw [if_neg (by simp), Bool.false_and, beq_eq_false_iff_ne]; omega
  unfold casB
  show ((((false || (ctI Z t k 0 == (q : Int))) || (ctI Z t k 1 == (q : Int))) || (ctI Z t k 2 == (q : Int))) || (ctI Z t k 3 == (q : Int))) = _
  rw [h1 0 (by omega), h1 1 (by omega), h1 2 (by omega), h1 3 (by omega)]
  simp [List.range, List.range.loop, List.any, Bool.or_assoc]
/-- What the document asks of a place, so many castlings looked at. -/
def okN (Z : List Int) (t : Nat) (k e : Int) (f q n : Nat) : Bool := goR Z t e f q || ((zg Z f).natAbs == 6 && caN Z t k q n)
theorem okN_zero (Z : List Int) (t : Nat) (k e : Int) (f q : Nat) : okN Z t k e f q 0 = goR Z t e f q := by
  unfold okN caN; rw [Bool.and_false, Bool.or_false]
theorem okN_succ {Z : List Int} {t : Nat} {k e : Int} {f q n : Nat} (h6 : (zg Z f).natAbs = 6) : okN Z t k e f q (n + 1) = (okN Z t k e f q n || (ctI Z t k n == (q : Int))) := by
  unfold okN; rw [caN, h6]; simp [Bool.or_assoc]
theorem okN_four {Z : List Int} {t : Nat} (ht : t ≤ 1) (hz : Pz Z) (k e : Int) (f q : Nat) : okN Z t k e f q 4 = okR Z t k e f q := by
  unfold okN okR; rw [caN_four ht hz]
theorem okN_no {Z : List Int} {t : Nat} {k e : Int} {f q : Nat} (h6 : (zg Z f).natAbs ≠ 6) : okR Z t k e f q = goR Z t e f q := by
  unfold okR; rw [beq_eq_false_iff_ne.2 h6, Bool.false_and, Bool.or_false]

/-! ## The list, place by place -/
def rowQ (Z : List Int) (t : Nat) (k e : Int) (K f q : Nat) : List (Nat × Nat × Nat) := if lgR Z t k e K f q = true then (inB Z f q).map fun n => (f, q, n) else []
def rowF (Z : List Int) (t : Nat) (k e : Int) (K f n : Nat) : List (Nat × Nat × Nat) := (List.range n).flatMap (rowQ Z t k e K f)
def rowA (Z : List Int) (t : Nat) (k e : Int) (K n : Nat) : List (Nat × Nat × Nat) := (List.range n).flatMap fun f => if ownB Z t f = true then rowF Z t k e K f 64 else []
theorem rowF_zero (Z : List Int) (t : Nat) (k e : Int) (K f : Nat) : rowF Z t k e K f 0 = [] := rfl
theorem rowF_succ (Z : List Int) (t : Nat) (k e : Int) (K f n : Nat) : rowF Z t k e K f (n + 1) = rowF Z t k e K f n ++ rowQ Z t k e K f n := by
  unfold rowF; rw [List.range_succ, List.flatMap_append]; simp
theorem rowA_zero (Z : List Int) (t : Nat) (k e : Int) (K : Nat) : rowA Z t k e K 0 = [] := rfl
theorem rowA_succ (Z : List Int) (t : Nat) (k e : Int) (K n : Nat) : rowA Z t k e K (n + 1) = rowA Z t k e K n ++ (if ownB Z t n = true then rowF Z t k e K n 64 else []) := by
  unfold rowA; rw [List.range_succ, List.flatMap_append]; simp
theorem rowA_all (Z : List Int) (t : Nat) (k e : Int) (K : Nat) : rowA Z t k e K 64 = mvR Z t k e K := by
  unfold rowA mvR
  symm
  refine flat_filter _ _ _ _ (fun f _ => ?_)
  split
  · unfold rowF
    refine flat_filter _ _ _ _ (fun q _ => rfl)
  · rfl
theorem rowQ_len (Z : List Int) (t : Nat) (k e : Int) (K f q : Nat) : (rowQ Z t k e K f q).length ≤ 4 := by
  unfold rowQ
  split
  · rw [List.length_map]; exact inB_len Z f q
  · simp
theorem rowF_len (Z : List Int) (t : Nat) (k e : Int) (K f n : Nat) : (rowF Z t k e K f n).length ≤ n * 4 := by
  have := flat_len (rowQ Z t k e K f) 4 (List.range n) (fun q _ => rowQ_len Z t k e K f q)
  rwa [List.length_range] at this
theorem rowA_len (Z : List Int) (t : Nat) (k e : Int) (K n : Nat) : (rowA Z t k e K n).length ≤ n * 256 := by
  have := flat_len (fun f => if ownB Z t f = true then rowF Z t k e K f 64 else []) 256 (List.range n) (fun f _ => by
    show (if ownB Z t f = true then rowF Z t k e K f 64 else []).length ≤ 256
    split
    · have := rowF_len Z t k e K f 64; omega
    · simp)
  rwa [List.length_range] at this
theorem mvs_rowA {p : Ps} (hM : MayP p) : mvs p = rowA p.Z p.t (p.k : Nat) p.e (kf p.Z p.t) 64 := by
  rw [rowA_all]
  exact mv_eq hM.t1 hM.st hM.cas hM.pas (kf_kg hM.st p.t)

end Go.Proofs.YtdmlamnonbmboaaDoor

namespace Go.Proofs.YtdmlamnonbmboaaDoor
open Go.RowKit Go.Shelf

/-- Whether the mover's king is attacked. -/
def ckP (p : Ps) : Bool := decide (atk p.Z (kf p.Z p.t) (1 - p.t) ≠ [])
/-- Whether the mover is mated. -/
def mtP (p : Ps) : Bool := ckP p && (mvs p).isEmpty
theorem ckP_atL {p : Ps} (hM : MayP p) : ckP p = decide (atL p.Z (kf p.Z p.t) (1 - p.t) ≠ []) := by
  unfold ckP
  have ht := hM.t1
  have hb : 1 - p.t = 0 ∨ 1 - p.t = 1 := by omega
  rw [decide_eq_decide]
  exact not_congr (atk_nil hM.st.pz (kf_kg hM.st p.t).1 hb)

attribute [local irreducible] mvs ckP
attribute [local go_sem] Oper.semAt_some wide_fn wide_fn0 wide_depth

set_option maxRecDepth 100000 in
set_option maxHeartbeats 1000000 in
theorem mated_any (b : Nat) (p : Ps) (hM : MayP p) (w : World) (hs : Sp w b p) (hT : TabS w) (hZ : TzT w) :
    Calls Tryd.prog 33 #[.pointer (some ⟨b, 0, none⟩)] w fun r w' => r = .returned (.bool (mtP p)) ∧ Below w.heap.size w w' := by
  have HIC : Hid (∀ W, Sp W b p → TabS W → Calls Tryd.prog 60 #[.pointer (some ⟨b, 0, none⟩)] W fun r w' => r = .returned (.bool (ckP p)) ∧ Below W.heap.size W w') := hide (fun W h1 h2 => by
    have := inCheckS_any b p.Z p.t (p.k : Nat) p.e (p.h : Nat) (p.f : Nat) hM.t1 (kf p.Z p.t) (kf_kg hM.st p.t).fst W h1 h2
    unfold ckP
    exact this)
  have HCA := hide (fun W (h1 : Sp W b p) h2 h3 => canMove_any b p hM W h1 h2 h3)
  have HR : Hid (mtP p = (ckP p && (mvs p).isEmpty)) := hide rfl
  have HS := hide hs
  have HT := hide hT
  have HZ := hide hZ
  obtain ⟨me, hme⟩ : ∃ me, (mvs p).isEmpty = me := ⟨_, rfl⟩
  obtain ⟨cb, hcb⟩ : ∃ cb, ckP p = cb := ⟨_, rfl⟩
  obtain ⟨rs, hrs⟩ : ∃ rs, mtP p = rs := ⟨_, rfl⟩
  rw [hme] at HCA HR
  rw [hcb] at HIC HR
  rw [hrs] at HR ⊢
  clear hme hcb hrs hs hT hZ hM
  go_enter Tryd.func33, Tryd.ntmps33
  go_wp2_with fail
  refine (HIC.out w HS.out HT.out).mono ?_
  rintro r w1 ⟨rfl, hb1⟩
  have HB1 := hide hb1
  clear hb1
  cases cb with
  | true =>
    go_wp2_with fail
    refine (HCA.out w1 (HS.out.mono HB1.out) (HT.out.mono HB1.out) (HZ.out.mono HB1.out)).mono ?_
    rintro r w2 ⟨rfl, hb2⟩
    have HB2 := hide (HB1.out.trans (hb2.mono HB1.out.size))
    clear hb2
    go_wp2_with fail
    go_ret
    exact ⟨by rw [HR.out]; simp, HB2.out⟩
  | false =>
    go_wp2_with fail
    go_ret
    exact ⟨by rw [HR.out]; rfl, HB1.out⟩

theorem Sp.box (p : Ps) (hM : MayP p) (w : World) : Sp (w.alloc (.cells (ivs (stP p)).toArray 51)) w.heap.size p := ⟨hM.st.1, Vb.new w 51 _⟩

end Go.Proofs.YtdmlamnonbmboaaDoor

namespace Go.Proofs.YtdmlamnonbmboaaDoor
open Go.RowKit Go.Shelf

theorem Tryd.info42 : (Tryd.prog.info? 42).map (fun i => (i.zero, i.size, i.bytes)) = some (some (.agg #[.int .i64 0, .int .i64 0, .int .i64 0]), 3, 24) := by kernel_rfl
theorem Tryd.underlyingM : Tryd.prog.underlying 25 = some (.slice 42) := by kernel_rfl

/-- The cells of a row of moves. -/
def flM (L : List (Nat × Nat × Nat)) : List Value := L.flatMap mvC
theorem flM_nil : flM [] = [] := rfl
theorem flM_app (A B : List (Nat × Nat × Nat)) : flM (A ++ B) = flM A ++ flM B := by unfold flM; rw [List.flatMap_append]
theorem flM_one (m : Nat × Nat × Nat) : flM [m] = mvC m := by unfold flM; simp
theorem flM_cons (m : Nat × Nat × Nat) (L : List (Nat × Nat × Nat)) : flM (m :: L) = mvC m ++ flM L := rfl
theorem flM_len : ∀ L, (flM L).length = L.length * 3
  | [] => rfl
  | m :: L => by
    have h : (m :: L).length = L.length + 1 := rfl
    rw [flM_cons, List.length_append, flM_len L, h]
    show 3 + _ = _
    omega
theorem flM_at : ∀ (L : List (Nat × Nat × Nat)) (i : Nat) (m : Nat × Nat × Nat), L[i]? = some m → ∀ j, j < 3 → (flM L)[i * 3 + j]? = (mvC m)[j]?
  | [], i, m, h, j, _ => by simp at h
  | x :: L, 0, m, h, j, hj => by
    have : x = m := by simpa using h
    subst this
    rw [flM_cons, Nat.zero_mul, Nat.zero_add, List.getElem?_append_left (by show j < 3; omega)]
  | x :: L, i + 1, m, h, j, hj => by
    have h' : L[i]? = some m := by simpa using h
    rw [flM_cons, List.getElem?_append_right (by show 3 ≤ _; omega)]
    have : (i + 1) * 3 + j - (mvC x).length = i * 3 + j := by show (i + 1) * 3 + j - 3 = _; omega
    rw [this]
    exact flM_at L i m h' j hj

theorem append_place26 (w : World) (base : Nat) (v : Value) (n : Nat) (vs : List Value) (hown : w.ownsRow base 42 3 v n vs) (ad : Addr) (us : List Value) (m c ty : Nat) (hl0 : us.length = m * 3) (hnews : ∀ j u, us[j]? = some u → w.cell? (ad.add j) = some u) (hone : ∀ u ∈ us, u.oneCell' = true) (hn : n + m ≤ 1000000000) (hm : 0 < m) (v' : Value) (w' : World)
    (hr : (Builtin.append_ #[25, 25] ty #[v, .slice (some ad) m c]).run Tryd.prog w = .ok v' w') : v'.ownBlock = v.ownBlock ∨ v'.ownBlock = some w.heap.size := by
  obtain ⟨i0, hi, hz0, hz1, hz2⟩ := info_parts Tryd.info42
  have hl : us.length = m * i0.size := by rw [hz1]; omega
  rcases hown.2 with ⟨rfl, rfl⟩ | ⟨g, cap, cur, rfl, hbg, hg, hnc, hcm, hcs, htake⟩
  · right
    have h1 := run_append_nil (P := Tryd.prog) w 25 ty 42 i0 _ Tryd.underlyingM hi hz0 ad m c us hl hnews (by omega) (by omega) (by rw [hz2]; omega)
    rw [h1] at hr
    simp only [Result.ok.injEq] at hr
    rw [← hr.1]
    rfl
  · by_cases hroom : n + m ≤ cap
    · left
      have hfit : n * i0.size + us.length ≤ cur.size := by rw [hl, hcs, hz1]; omega
      have h1 := run_append_room (P := Tryd.prog) w 25 ty 42 i0 Tryd.underlyingM hi g n cap cur hg ad m c us hl hnews hone hroom hfit
      rw [h1] at hr
      simp only [Result.ok.injEq] at hr
      rw [← hr.1]
      rfl
    · right
      have h1 := run_append_grow (P := Tryd.prog) w 25 ty 42 i0 _ Tryd.underlyingM hi hz0 ⟨g, 0, none⟩ n cap vs (by rw [hown.1, hz1]) (hown.cells (g := g) rfl) ad m c us hl hnews (by omega) (by omega) (growslice_fits (by omega) (by rw [hz2]; omega))
      rw [h1] at hr
      simp only [Result.ok.injEq] at hr
      rw [← hr.1]
      rfl

/-- 'append(s, m)', s the call's own, m a move that lies in a block of its own. -/
theorem wp_append_m {o : Oper} {a : Act} {K : Act → World → Prop} {Q : Exit → Act → World → Prop} (w : World) (s x : Operand)
    (ho : o.op = .call { callee := .builtin .append, args := #[s, x], argTypes := #[25, 25] }) (base : Nat) (v : Value) (n : Nat) (L : List (Nat × Nat × Nat)) (hs : a.eval s = v) (hown : w.ownsRow base 42 3 v n (flM L))
    (b : Nat) (m : Nat × Nat × Nat) (hx : a.eval x = .slice (some ⟨b, 0, none⟩) 1 1) (hb : Vb w b 42 (mvC m)) (hlen : n + 1 ≤ 1000000000) (hbase : base ≤ w.heap.size)
    (h : ∀ v' w', w'.ownsRow base 42 3 v' (n + 1) (flM (L ++ [m])) → w.grownBy w' v.ownBlock → (∀ g, v'.ownBlock = some g → v.ownBlock = some g ∨ w.heap.size ≤ g) → K (a.put o.dst v') w') : o.wp Tryd.prog a w K Q := by
  obtain ⟨i0, hi, hz0, hz1, hz2⟩ := info_parts Tryd.info42
  have hnews : ∀ j u, (mvC m)[j]? = some u → w.cell? ((⟨b, 0, none⟩ : Addr).add j) = some u := by
    intro j u hu
    rw [Addr.add_lit, Nat.zero_add]
    exact hb.cell hu
  obtain ⟨v', w', hr, h2, h3, -⟩ := run_append_own (P := Tryd.prog) w base 25 o.type 42 i0 _ 3 24 Tryd.underlyingM hi hz0 hz1 hz2 rfl (by decide) v n _ hown ⟨b, 0, none⟩ 1 1 (mvC m) rfl hnews (mvC_one m) (by unfold maxLen; omega) (by omega) hbase
  have h4 := append_place26 w base v n _ hown ⟨b, 0, none⟩ (mvC m) 1 1 o.type rfl hnews (mvC_one m) hlen (by omega) v' w' hr
  unfold Oper.wp
  simp [execOp, ho, resolve, invoke, builtin, hs, hx, hr, Result.andThen]
  refine h v' w' (by rw [flM_app, flM_one]; exact h2) h3 (fun g hg => ?_)
  rcases h4 with e | e
  · exact Or.inl (e ▸ hg)
  · rw [hg, Option.some.injEq] at e; exact Or.inr (by omega)
theorem wpListIn_append_m {l d : Nat} {ops : Array Oper} {rest : List Oper} {o : Oper} {a : Act} {Q : Exit → Act → World → Prop} (w : World) (hgd : o.guard = none) (s x : Operand)
    (ho : o.op = .call { callee := .builtin .append, args := #[s, x], argTypes := #[25, 25] }) (base : Nat) (v : Value) (n : Nat) (L : List (Nat × Nat × Nat)) (hs : a.eval s = v) (hown : w.ownsRow base 42 3 v n (flM L))
    (b : Nat) (m : Nat × Nat × Nat) (hx : a.eval x = .slice (some ⟨b, 0, none⟩) 1 1) (hb : Vb w b 42 (mvC m)) (hlen : n + 1 ≤ 1000000000) (hbase : base ≤ w.heap.size)
    (h : ∀ v' w', w'.ownsRow base 42 3 v' (n + 1) (flM (L ++ [m])) → w.grownBy w' v.ownBlock → (∀ g, v'.ownBlock = some g → v.ownBlock = some g ∨ w.heap.size ≤ g) → wpListIn (Fence.wide.inRound l) d Tryd.prog ops Q rest (a.put o.dst v') w') : wpListIn (Fence.wide.inRound l) d Tryd.prog ops Q (o :: rest) a w :=
  wpListIn_plain hgd fun _ hK => oper_round (fun c e => by rw [ho] at e; cases e) (wp_append_m w s x ho base v n L hs hown b m hx hb hlen hbase fun v' w' h1 h2 h3 => hK _ _ (h v' w' h1 h2 h3))
theorem wpList_append_m {ops : Array Oper} {rest : List Oper} {o : Oper} {a : Act} {Q : Exit → Act → World → Prop} (w : World) (hgd : o.guard = none) (s x : Operand)
    (ho : o.op = .call { callee := .builtin .append, args := #[s, x], argTypes := #[25, 25] }) (base : Nat) (v : Value) (n : Nat) (L : List (Nat × Nat × Nat)) (hs : a.eval s = v) (hown : w.ownsRow base 42 3 v n (flM L))
    (b : Nat) (m : Nat × Nat × Nat) (hx : a.eval x = .slice (some ⟨b, 0, none⟩) 1 1) (hb : Vb w b 42 (mvC m)) (hlen : n + 1 ≤ 1000000000) (hbase : base ≤ w.heap.size)
    (h : ∀ v' w', w'.ownsRow base 42 3 v' (n + 1) (flM (L ++ [m])) → w.grownBy w' v.ownBlock → (∀ g, v'.ownBlock = some g → v.ownBlock = some g ∨ w.heap.size ≤ g) → wpList Tryd.prog ops Q rest (a.put o.dst v') w') : wpList Tryd.prog ops Q (o :: rest) a w :=
  wpList_plain hgd fun _ hK => wp_append_m w s x ho base v n L hs hown b m hx hb hlen hbase fun v' w' h1 h2 h3 => hK _ _ (h v' w' h1 h2 h3)

/-- A row of moves that can be read. -/
structure Mr (w : World) (v : Value) (L : List (Nat × Nat × Nat)) : Prop where
  ex : ∃ a c, v = .slice a L.length c ∧ L.length ≤ c ∧ c ≤ maxLen ∧ (0 < L.length → ∃ g, a = some ⟨g, 0, none⟩ ∧ ∀ i u, (flM L)[i]? = some u → w.cell? ⟨g, i, none⟩ = some u)
theorem Mr.of_own {w : World} {base : Nat} {v : Value} {L : List (Nat × Nat × Nat)} (h : w.ownsRow base 42 3 v L.length (flM L)) : Mr w v L := by
  rcases h.2 with ⟨rfl, h0⟩ | ⟨g, cap, cur, rfl, hb, hg, hnc, hcm, hcs, ht⟩
  · exact ⟨none, 0, by rw [h0], by omega, by unfold maxLen; omega, fun hp => by omega⟩
  · refine ⟨_, _, rfl, hnc, hcm, fun _ => ⟨g, rfl, fun i u hu => ?_⟩⟩
    rw [← ht] at hu
    have h2 : cur.toList[i]? = some u := by
      rw [List.getElem?_take] at hu
      split at hu
      · exact hu
      · cases hu
    simp [World.cell?, hg]
    simpa using h2
theorem Mr.mono {w w' : World} {v : Value} {L : List (Nat × Nat × Nat)} (h : Mr w v L) (hb : Below w.heap.size w w') : Mr w' v L := by
  obtain ⟨a, c, h1, h2, h3, h4⟩ := h.ex
  refine ⟨a, c, h1, h2, h3, fun hp => ?_⟩
  obtain ⟨g, h5, h6⟩ := h4 hp
  exact ⟨g, h5, fun i u hu => (hb.cell (p := ⟨g, i, none⟩) (World.block_lt_of_cell? w _ (h6 i u hu))).trans (h6 i u hu)⟩

end Go.Proofs.YtdmlamnonbmboaaDoor
