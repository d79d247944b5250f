/-
  Rows of moves: appended to, read. No conditions beyond those that each theorem bears.
  Chess: a position seen as a state: walked. No conditions beyond those that each theorem bears.
  Chess: the face Count, walked. No conditions beyond those that each theorem bears.
  Chess: all moves of a position, collected; the face All. No conditions beyond those that each theorem bears.
-/
import Derived.Test.YtdmlamnonbmboaaDoorQ31
import Derived.Test.YtdmlamnonbmboaaDoorQ30
import Derived.Test.YtdmlamnonbmboaaDoorQ35
import Derived.Test.YtdmlamnonbmboaaDoorQ15
import Derived.Laws.CopyRow
import Derived.Test.YtdmlamnonbmboaaDoorQ32
import Derived.Test.YtdmlamnonbmboaaDoorQ34
namespace Go.Proofs.YtdmlamnonbmboaaDoor
open Go.RowKit Go.Shelf

theorem Tryd.info42 : (Tryd.prog.info? 42).map (fun i => (i.zero, i.size, i.bytes)) = some (some (.agg #[.int .i64 0, .int .i64 0, .int .i64 0]), 3, 24) := by kernel_rfl
theorem Tryd.underlyingM : Tryd.prog.underlying 25 = some (.slice 42) := by kernel_rfl

/-- The cells of a row of moves. -/
def flM (L : List (Nat × Nat × Nat)) : List Value := L.flatMap mvC
theorem flM_nil : flM [] = [] := rfl
theorem flM_app (A B : List (Nat × Nat × Nat)) : flM (A ++ B) = flM A ++ flM B := by unfold flM; rw [List.flatMap_append]
theorem flM_one (m : Nat × Nat × Nat) : flM [m] = mvC m := by unfold flM; simp
theorem flM_cons (m : Nat × Nat × Nat) (L : List (Nat × Nat × Nat)) : flM (m :: L) = mvC m ++ flM L := rfl
theorem flM_len : ∀ L, (flM L).length = L.length * 3
  | [] => rfl
  | m :: L => by
    have h : (m :: L).length = L.length + 1 := rfl
    rw [flM_cons, List.length_append, flM_len L, h]
    show 3 + _ = _
    omega
theorem flM_at : ∀ (L : List (Nat × Nat × Nat)) (i : Nat) (m : Nat × Nat × Nat), L[i]? = some m → ∀ j, j < 3 → (flM L)[i * 3 + j]? = (mvC m)[j]?
  | [], i, m, h, j, _ => by simp at h
  | x :: L, 0, m, h, j, hj => by
    have : x = m := by simpa using h
    subst this
    rw [flM_cons, Nat.zero_mul, Nat.zero_add, List.getElem?_append_left (by show j < 3; omega)]
  | x :: L, i + 1, m, h, j, hj => by
    have h' : L[i]? = some m := by simpa using h
    rw [flM_cons, List.getElem?_append_right (by show 3 ≤ _; omega)]
    have : (i + 1) * 3 + j - (mvC x).length = i * 3 + j := by show (i + 1) * 3 + j - 3 = _; omega
    rw [this]
    exact flM_at L i m h' j hj

theorem append_place26 (w : World) (base : Nat) (v : Value) (n : Nat) (vs : List Value) (hown : w.ownsRow base 42 3 v n vs) (ad : Addr) (us : List Value) (m c ty : Nat) (hl0 : us.length = m * 3) (hnews : ∀ j u, us[j]? = some u → w.cell? (ad.add j) = some u) (hone : ∀ u ∈ us, u.oneCell' = true) (hn : n + m ≤ 1000000000) (hm : 0 < m) (v' : Value) (w' : World)
    (hr : (Builtin.append_ #[25, 25] ty #[v, .slice (some ad) m c]).run Tryd.prog w = .ok v' w') : v'.ownBlock = v.ownBlock ∨ v'.ownBlock = some w.heap.size := by
  obtain ⟨i0, hi, hz0, hz1, hz2⟩ := info_parts Tryd.info42
  have hl : us.length = m * i0.size := by rw [hz1]; omega
  rcases hown.2 with ⟨rfl, rfl⟩ | ⟨g, cap, cur, rfl, hbg, hg, hnc, hcm, hcs, htake⟩
  · right
    have h1 := run_append_nil (P := Tryd.prog) w 25 ty 42 i0 _ Tryd.underlyingM hi hz0 ad m c us hl hnews (by omega) (by omega) (by rw [hz2]; omega)
    rw [h1] at hr
    simp only [Result.ok.injEq] at hr
    rw [← hr.1]
    rfl
  · by_cases hroom : n + m ≤ cap
    · left
      have hfit : n * i0.size + us.length ≤ cur.size := by rw [hl, hcs, hz1]; omega
      have h1 := run_append_room (P := Tryd.prog) w 25 ty 42 i0 Tryd.underlyingM hi g n cap cur hg ad m c us hl hnews hone hroom hfit
      rw [h1] at hr
      simp only [Result.ok.injEq] at hr
      rw [← hr.1]
      rfl
    · right
      have h1 := run_append_grow (P := Tryd.prog) w 25 ty 42 i0 _ Tryd.underlyingM hi hz0 ⟨g, 0, none⟩ n cap vs (by rw [hown.1, hz1]) (hown.cells (g := g) rfl) ad m c us hl hnews (by omega) (by omega) (growslice_fits (by omega) (by rw [hz2]; omega))
      rw [h1] at hr
      simp only [Result.ok.injEq] at hr
      rw [← hr.1]
      rfl

/-- 'append(s, m)', s the call's own, m a move that lies in a block of its own. -/
theorem wp_append_m {o : Oper} {a : Act} {K : Act → World → Prop} {Q : Exit → Act → World → Prop} (w : World) (s x : Operand)
    (ho : o.op = .call { callee := .builtin .append, args := #[s, x], argTypes := #[25, 25] }) (base : Nat) (v : Value) (n : Nat) (L : List (Nat × Nat × Nat)) (hs : a.eval s = v) (hown : w.ownsRow base 42 3 v n (flM L))
    (b : Nat) (m : Nat × Nat × Nat) (hx : a.eval x = .slice (some ⟨b, 0, none⟩) 1 1) (hb : Vb w b 42 (mvC m)) (hlen : n + 1 ≤ 1000000000) (hbase : base ≤ w.heap.size)
    (h : ∀ v' w', w'.ownsRow base 42 3 v' (n + 1) (flM (L ++ [m])) → w.grownBy w' v.ownBlock → (∀ g, v'.ownBlock = some g → v.ownBlock = some g ∨ w.heap.size ≤ g) → K (a.put o.dst v') w') : o.wp Tryd.prog a w K Q := by
  obtain ⟨i0, hi, hz0, hz1, hz2⟩ := info_parts Tryd.info42
  have hnews : ∀ j u, (mvC m)[j]? = some u → w.cell? ((⟨b, 0, none⟩ : Addr).add j) = some u := by
    intro j u hu
    rw [Addr.add_lit, Nat.zero_add]
    exact hb.cell hu
  obtain ⟨v', w', hr, h2, h3, -⟩ := run_append_own (P := Tryd.prog) w base 25 o.type 42 i0 _ 3 24 Tryd.underlyingM hi hz0 hz1 hz2 rfl (by decide) v n _ hown ⟨b, 0, none⟩ 1 1 (mvC m) rfl hnews (mvC_one m) (by unfold maxLen; omega) (by omega) hbase
  have h4 := append_place26 w base v n _ hown ⟨b, 0, none⟩ (mvC m) 1 1 o.type rfl hnews (mvC_one m) hlen (by omega) v' w' hr
  unfold Oper.wp
  simp [execOp, ho, resolve, invoke, builtin, hs, hx, hr, Result.andThen]
  refine h v' w' (by rw [flM_app, flM_one]; exact h2) h3 (fun g hg => ?_)
  rcases h4 with e | e
  · exact Or.inl (e ▸ hg)
  · rw [hg, Option.some.injEq] at e; exact Or.inr (by omega)
theorem wpListIn_append_m {l d : Nat} {ops : Array Oper} {rest : List Oper} {o : Oper} {a : Act} {Q : Exit → Act → World → Prop} (w : World) (hgd : o.guard = none) (s x : Operand)
    (ho : o.op = .call { callee := .builtin .append, args := #[s, x], argTypes := #[25, 25] }) (base : Nat) (v : Value) (n : Nat) (L : List (Nat × Nat × Nat)) (hs : a.eval s = v) (hown : w.ownsRow base 42 3 v n (flM L))
    (b : Nat) (m : Nat × Nat × Nat) (hx : a.eval x = .slice (some ⟨b, 0, none⟩) 1 1) (hb : Vb w b 42 (mvC m)) (hlen : n + 1 ≤ 1000000000) (hbase : base ≤ w.heap.size)
    (h : ∀ v' w', w'.ownsRow base 42 3 v' (n + 1) (flM (L ++ [m])) → w.grownBy w' v.ownBlock → (∀ g, v'.ownBlock = some g → v.ownBlock = some g ∨ w.heap.size ≤ g) → wpListIn (Fence.wide.inRound l) d Tryd.prog ops Q rest (a.put o.dst v') w') : wpListIn (Fence.wide.inRound l) d Tryd.prog ops Q (o :: rest) a w :=
  wpListIn_plain hgd fun _ hK => oper_round (fun c e => by rw [ho] at e; cases e) (wp_append_m w s x ho base v n L hs hown b m hx hb hlen hbase fun v' w' h1 h2 h3 => hK _ _ (h v' w' h1 h2 h3))
theorem wpList_append_m {ops : Array Oper} {rest : List Oper} {o : Oper} {a : Act} {Q : Exit → Act → World → Prop} (w : World) (hgd : o.guard = none) (s x : Operand)
    (ho : o.op = .call { callee := .builtin .append, args := #[s, x], argTypes := #[25, 25] }) (base : Nat) (v : Value) (n : Nat) (L : List (Nat × Nat × Nat)) (hs : a.eval s = v) (hown : w.ownsRow base 42 3 v n (flM L))
    (b : Nat) (m : Nat × Nat × Nat) (hx : a.eval x = .slice (some ⟨b, 0, none⟩) 1 1) (hb : Vb w b 42 (mvC m)) (hlen : n + 1 ≤ 1000000000) (hbase : base ≤ w.heap.size)
    (h : ∀ v' w', w'.ownsRow base 42 3 v' (n + 1) (flM (L ++ [m])) → w.grownBy w' v.ownBlock → (∀ g, v'.ownBlock = some g → v.ownBlock = some g ∨ w.heap.size ≤ g) → wpList Tryd.prog ops Q rest (a.put o.dst v') w') : wpList Tryd.prog ops Q (o :: rest) a w :=
  wpList_plain hgd fun _ hK => wp_append_m w s x ho base v n L hs hown b m hx hb hlen hbase fun v' w' h1 h2 h3 => hK _ _ (h v' w' h1 h2 h3)

/-- A row of moves that can be read. -/
structure Mr (w : World) (v : Value) (L : List (Nat × Nat × Nat)) : Prop where
  ex : ∃ a c, v = .slice a L.length c ∧ L.length ≤ c ∧ c ≤ maxLen ∧ (0 < L.length → ∃ g, a = some ⟨g, 0, none⟩ ∧ ∀ i u, (flM L)[i]? = some u → w.cell? ⟨g, i, none⟩ = some u)
theorem Mr.of_own {w : World} {base : Nat} {v : Value} {L : List (Nat × Nat × Nat)} (h : w.ownsRow base 42 3 v L.length (flM L)) : Mr w v L := by
  rcases h.2 with ⟨rfl, h0⟩ | ⟨g, cap, cur, rfl, hb, hg, hnc, hcm, hcs, ht⟩
  · exact ⟨none, 0, by rw [h0], by omega, by unfold maxLen; omega, fun hp => by omega⟩
  · refine ⟨_, _, rfl, hnc, hcm, fun _ => ⟨g, rfl, fun i u hu => ?_⟩⟩
    rw [← ht] at hu
    have h2 : cur.toList[i]? = some u := by
      rw [List.getElem?_take] at hu
      split at hu
      · exact hu
      · cases hu
    simp [World.cell?, hg]
    simpa using h2
theorem Mr.mono {w w' : World} {v : Value} {L : List (Nat × Nat × Nat)} (h : Mr w v L) (hb : Below w.heap.size w w') : Mr w' v L := by
  obtain ⟨a, c, h1, h2, h3, h4⟩ := h.ex
  refine ⟨a, c, h1, h2, h3, fun hp => ?_⟩
  obtain ⟨g, h5, h6⟩ := h4 hp
  exact ⟨g, h5, fun i u hu => (hb.cell (p := ⟨g, i, none⟩) (World.block_lt_of_cell? w _ (h6 i u hu))).trans (h6 i u hu)⟩

end Go.Proofs.YtdmlamnonbmboaaDoor

namespace Go.Proofs.YtdmlamnonbmboaaDoor
open Go.RowKit Go.Shelf

theorem wp_copy_run {P : Program} {o : Oper} {a : Act} {w w' : World} {K : Act → World → Prop} {Q : Exit → Act → World → Prop} (d s : Operand) (dT sT : TypeId)
    (ho : o.op = .call { callee := .builtin .copy, args := #[d, s], argTypes := #[dT, sT] }) {x y v : Value} (hd : a.eval d = x) (hs : a.eval s = y)
    (hrun : (Builtin.copy_ #[dT, sT] o.type #[x, y]).run P w = .ok v w') (h : K (a.put o.dst v) w') : o.wp P a w K Q := by
  unfold Oper.wp
  simp [execOp, ho, resolve, invoke, builtin, hd, hs, hrun, Result.andThen]
  exact h

theorem Rd.keepsX {w w' : World} {rb ro : Nat} {n c : Nat} {Z : List Int} {d : Nat} (h : Rd w (some ⟨rb, ro, none⟩) n c Z) (hk : Keeps (fun j => j = d) w w') (hd : rb ≠ d) : Rd w' (some ⟨rb, ro, none⟩) n c Z := h.keeps hk (fun x y hx => by cases hx; exact hd)

set_option maxRecDepth 100000 in
set_option maxHeartbeats 4000000 in
theorem seen_any (a : Option Addr) (c : Nat) (Z : List Int) (t k e h f : Int) (w : World) (hz : Rd w a 64 c Z) :
    Calls Tryd.prog 18 #[.agg (chA a 64 c t k e h f)] w fun r w' => r = .returned (.agg (ivs (stL Z t k e h f)).toArray) ∧ Below w.heap.size w w' := by
  obtain ⟨rb, ro, rfl, _⟩ := hz.5 (by decide)
  obtain ⟨g, hg⟩ : ∃ g, w.heap.size = g := ⟨_, rfl⟩
  obtain ⟨w1, hw1⟩ : ∃ w1, (w.alloc (.cells (chA (some ⟨rb, ro, none⟩) 64 c t k e h f) 24)).alloc (.cells Tryd.zeroCells51 51) = w1 := ⟨_, rfl⟩
  have B1 : Below w.heap.size w w1 := by rw [← hw1]; exact ((Below.refl _ w).alloc (Nat.le_refl _) _).alloc (by simp) _
  have s1 : w1.heap.size = g + 2 := by rw [← hw1, ← hg]; simp
  have C1 : Ch w1 g (some ⟨rb, ro, none⟩) 64 c t k e h f := by rw [← hw1, ← hg]; exact (Ch.new w _ _ _ _ _ _ _ _).old _
  have R1 : Vb w1 (g + 1) 51 (ivs (stL zr64 0 0 0 0 0)) := by
    rw [← hw1, ← hg]
    have := zr69_new (w.alloc (.cells (chA (some ⟨rb, ro, none⟩) 64 c t k e h f) 24))
    rw [World.size_alloc] at this
    exact this
  obtain ⟨d, hd⟩ : ∃ d, w1.heap.size = d := ⟨_, rfl⟩
  obtain ⟨w2, hw2⟩ : ∃ w2, w1.alloc (.cells Tryd.zeroCells51 51) = w2 := ⟨_, rfl⟩
  have V2 : Vb w2 d 51 (ivs (stL zr64 0 0 0 0 0)) := by rw [← hw2, ← hd]; exact zr69_new w1
  have B2 : Below w1.heap.size w1 w2 := by rw [← hw2]; exact (Below.refl _ _).alloc (Nat.le_refl _) _
  have hl := hz.1
  have HL : Hid ((ivs Z).length = 64 ∧ ((ivs (stL zr64 t k e h f)).toArray.toList.take 0 ++ ivs Z ++ (ivs (stL zr64 t k e h f)).toArray.toList.drop (0 + (ivs Z).length)) = ivs (stL Z t k e h f) ∧ (ivs (stL Z t k e h f)).length = 69) := hide (by
    have h1 : (ivs Z).length = 64 := by rw [ivs_length, hl]
    refine ⟨h1, ?_, stL_len hl _ _ _ _ _⟩
    rw [h1, List.take_zero, List.nil_append, Nat.zero_add]
    unfold stL
    rw [ivs_app, ivs_app, List.drop_append_of_le_length (by rw [ivs_length, zr64_len]; exact Nat.le_refl _), List.drop_of_length_le (by rw [ivs_length, zr64_len]; exact Nat.le_refl _), List.nil_append])
  have hc := C1.cells
  obtain ⟨_, k1, k2, k3, k4, k5⟩ := hc
  have HBU := hide (built53_five t k e h f)
  have HB1 := hide B1
  have HB2 := hide B2
  have HC2 := hide ((C1.below B2 (by omega)))
  have HR2 := hide (R1.below B2 (by omega))
  have HZ2 := hide ((hz.mono B1).mono B2)
  have HZD : Hid (rb ≠ d) := hide (fun e => by have := hz.blt (by decide); omega)
  have HG := hide hg
  have HD : Hid (d = g + 2) := hide (by omega)
  obtain ⟨V0, hV0⟩ : ∃ V0, (ivs (stL zr64 t k e h f)).toArray = V0 := ⟨_, rfl⟩
  rw [hV0] at HBU
  have HV0 := hide hV0
  clear hz B1 C1 R1 B2 hl hV0
  try rw [hg]
  go_enter Tryd.func18, Tryd.ntmps18
  go_upto_region 1 with fail
  try rw [hg]
  clear hw1
  go_upto_region 2 with (refine wpList_store_vb rfl 51 (.tmp 3) (.tmp 14) rfl d (ivs (stL zr64 t k e h f)) _ (by simp [Act.eval]) (by rfl) V2 (by rw [stL_len zr64_len, stL_len zr64_len]) (by rw [stL_len zr64_len]; exact row53) (by simpa using ivs_one _) ?_; intro w4 V4 K4)
  try rw [hd]
  have HDD := hide hd
  clear hw2 V2 k1 k2 k3 k4 k5
  have HB4 : Hid (Below w1.heap.size w1 w4) := hide (HB2.out.trans (K4.below HB2.out.size (fun j hj e => by have := HDD.out; omega)))
  have HC4 : Hid (∀ W, Keeps (fun j => j = d) w4 W → Ch W g (some ⟨rb, ro, none⟩) 64 c t k e h f) := hide (fun W hk => (HC2.out.keeps K4 (fun e => by have := HD.out; omega)).keeps hk (fun e => by have := HD.out; omega))
  have HZ4 : Hid (∀ W, Keeps (fun j => j = d) w4 W → Rd W (some ⟨rb, ro, none⟩) 64 c Z) := hide (fun W hk => ((HZ2.out.keepsX K4 (HZD.out)).keepsX hk (HZD.out)))
  have HR4 : Hid (∀ W, Keeps (fun j => j = d) w4 W → Vb W (g + 1) 51 (ivs (stL zr64 0 0 0 0 0))) := hide (fun W hk => (HR2.out.keeps K4 (fun e => by have := HD.out; omega)).keeps hk (fun e => by have := HD.out; omega))
  clear K4
  refine wp_region_held (S := fun W5 => Keeps (fun j => j = d) w4 W5) (by kernel_rfl) ?_
  change wpAnyH _ _ _ _ _ _ _ _ (World.drew _)
  have SW : (fun W5 => Keeps (fun j => j = d) w4 W5) w4.drew := (Keeps.refl _ _).drew
  have VDw : Vb w4.drew d 51 (ivs (stL zr64 t k e h f)) := V4.mono (drewN_below _ _ 1)
  generalize w4.drew = wd at *
  refine wpAnyH_take (i := 0) (v := .pointer (some ⟨d, 0, none⟩)) rfl (by kernel_rfl) (by kernel_rfl) (by kernel_rfl) (fun _ _ _ h => h) (Or.inl ⟨by rfl, ?_⟩) SW ?_
  · intro W5 hW5
    go_simp <;> first | done | rfl | (rw [IntKind.wrap_i64]; omega) | omega
  go_simp
  refine wpAnyH_take (i := 1) (v := .slice (some ⟨d, 0, none⟩) 64 64) rfl (by kernel_rfl) (by kernel_rfl) (by kernel_rfl) (fun _ _ _ h => h) (Or.inl ⟨by rfl, ?_⟩) SW ?_
  · intro W5 hW5
    go_simp <;> first | done | rfl | (rw [IntKind.wrap_i64]; omega) | omega
  go_simp
  refine wpAnyH_take (i := 2) (v := .pointer (some ⟨g, 0, none⟩)) rfl (by kernel_rfl) (by kernel_rfl) (by kernel_rfl) (fun _ _ _ h => h) (Or.inl ⟨by rfl, ?_⟩) SW ?_
  · intro W5 hW5
    go_simp <;> first | done | rfl | (rw [IntKind.wrap_i64]; omega) | omega
  go_simp
  refine wpAnyH_take (i := 3) (v := .slice (some ⟨rb, ro, none⟩) 64 c) rfl (by kernel_rfl) (by kernel_rfl) (by kernel_rfl) (fun _ _ _ h => h) (Or.inl ⟨by rfl, ?_⟩) SW ?_
  · intro W5 hW5
    have y0 := (HC4.out W5 hW5).cells.1
    go_simp <;> first | done | rfl | (rw [IntKind.wrap_i64]; omega) | omega
  go_simp
  refine wpAnyH_ready (rs := [4]) (by kernel_rfl) (by simp) ?_
  refine AllReadyH.cons rfl (fun K1 hK1 => ?_) AllReadyH.nil
  have hrun := run_copy_row (P := Tryd.prog) wd 22 22 3 3 d 0 64 64 ⟨rb, ro, none⟩ 64 c (ivs (stL zr64 t k e h f)).toArray 51 (ivs Z) Tryd.underlying22 (by kernel_rfl) VDw (by rw [HL.out.1]; rfl) ((HZ4.out wd SW).news) (by rw [HL.out.1]; simp [ivs, stL, zr64]) (by intro v hv; unfold ivs at hv; obtain ⟨q, _, rfl⟩ := List.mem_map.1 hv; rfl)
  refine wp_copy_run (.tmp 16) (.tmp 18) 22 22 (by rfl) (by rfl) (by rfl) hrun ?_
  have hlist : ((ivs (stL zr64 t k e h f)).toArray.toList.take 0 ++ ivs Z ++ (ivs (stL zr64 t k e h f)).toArray.toList.drop (0 + (ivs Z).length)) = ivs (stL Z t k e h f) := HL.out.2.1
  rw [hlist]
  have VE : Vb (wd.setRow d (ivs (stL Z t k e h f)).toArray) d 51 (ivs (stL Z t k e h f)) := VDw.setRow _
  have KE : Keeps (fun j => j = d) wd (wd.setRow d (ivs (stL Z t k e h f)).toArray) := Keeps.setRow wd d _
  generalize wd.setRow d (ivs (stL Z t k e h f)).toArray = we at *
  refine hK1.out _ _ (SW.trans KE) (fun SW => ?_)
  clear hK1 K1 VDw KE hrun hlist
  go_simp
  refine wpAnyH_done (by kernel_rfl) ?_ _
  have HSW := hide SW
  have HVE := hide VE
  have HRW := hide (HR4.out _ SW)
  clear SW VE
  rw [← HD.out]
  go_wp2_with (first
    | refine wpList_load_vb rfl 51 (.tmp 3) rfl d rfl (by rw [HL.out.2.2]; exact row53) HVE.out ?_
    | (refine wpList_store_vb rfl 51 (.tmp 2) (.tmp 20) rfl (g + 1) _ _ rfl rfl HRW.out (by rw [stL_len zr64_len, HL.out.2.2]) (by rw [HL.out.2.2]; exact row53) (by simpa using ivs_one _) ?_; intro w20 L20 K20))
  refine bodyPost_ret (results_row rfl _ _ (g + 1) rfl (run_loadVar_row _ _ 51 51 _ (0, 0) _ L20 Tryd.underlying51 rfl (by rw [List.size_toArray, HL.out.2.2]; exact row53.s))) rfl ⟨rfl, ?_⟩
  have hk : Keeps (fun j => j = g + 1 ∨ j = d) w1 w20 := ((Keeps.of_all HB4.out).trans (HSW.out.mono (fun _ _ e => Or.inr e))).trans (K20.mono (fun _ _ e => Or.inl e))
  exact (show Below g w w20 from HG.out ▸ HB1.out.trans (hk.below HB1.out.size (fun j hj e => by have := HG.out; have := HD.out; omega)))

end Go.Proofs.YtdmlamnonbmboaaDoor

namespace Go.Proofs.YtdmlamnonbmboaaDoor
open Go.RowKit Go.Shelf

theorem ps_of {Z : List Int} {t k e h f : Int} (H : MayC Z t k e h f) : ∃ p : Ps, MayP p ∧ p.Z = Z ∧ ((p.t : Nat) : Int) = t ∧ ((p.k : Nat) : Int) = k ∧ p.e = e ∧ ((p.h : Nat) : Int) = h ∧ ((p.f : Nat) : Int) = f := by
  obtain ⟨h1, h2, h3, h4, h5, h6, h7, h8, h9⟩ := H
  have hk := h3.1
  refine ⟨⟨Z, t.toNat, k.toNat, e, h.toNat, f.toNat⟩, ?_, rfl, by show ((t.toNat : Nat) : Int) = t; omega, by show ((k.toNat : Nat) : Int) = k; omega, rfl, by show ((h.toNat : Nat) : Int) = h; omega, by show ((f.toNat : Nat) : Int) = f; omega⟩
  have e1 : ((t.toNat : Nat) : Int) = t := by omega
  have e2 : ((k.toNat : Nat) : Int) = k := by omega
  have e3 : ((h.toNat : Nat) : Int) = h := by omega
  have e4 : ((f.toNat : Nat) : Int) = f := by omega
  unfold MayP
  dsimp only
  rw [e1, e2, e3, e4]
  exact ⟨h1, h2, h3, h4, h5, h6, h7, h8, h9⟩
theorem MayP.eb {p : Ps} (h : MayP p) : -9223372036854775808 ≤ p.e ∧ p.e ≤ 9223372036854775807 := by
  have := h.pas
  unfold Pas at this
  omega
abbrev chP (a : Option Addr) (c : Nat) (p : Ps) : Array Value := chA a 64 c (p.t : Nat) (p.k : Nat) p.e (p.h : Nat) (p.f : Nat)


end Go.Proofs.YtdmlamnonbmboaaDoor

namespace Go.Proofs.YtdmlamnonbmboaaDoor
open Go.RowKit Go.Shelf

/-- What is held while moves are collected: g: the list's place. -/
structure CmI (g : Nat) (w : World) (O : Nat → Prop) (s : List (Nat × Nat × Nat)) (v : Value) (V : World) : Prop where
  o : ∀ j, O j ↔ (j = g ∨ v.ownBlock = some j)
  b : Vb V g 25 [v]
  r : V.ownsRow (g + 1) 42 3 v s.length (flM s)
  bl : Below w.heap.size w V

theorem own_lt26 {w : World} {base n : Nat} {v : Value} {xs : List Value} (h : w.ownsRow base 42 3 v n xs) {g : Nat} (hg : v.ownBlock = some g) : base ≤ g ∧ g < w.heap.size := by
  rcases h.2 with ⟨rfl, _⟩ | ⟨g', cap, cur, rfl, hb, hg', _⟩
  · cases hg
  · have : g' = g := by simpa [Value.ownBlock] using hg
    subst this
    exact ⟨hb, (Array.getElem?_eq_some_iff.1 hg').1⟩
theorem own_blk26 {w w' : World} {base n : Nat} {v : Value} {xs : List Value} (h : w.ownsRow base 42 3 v n xs) (hb : ∀ g, v.ownBlock = some g → w'.heap[g]? = w.heap[g]?) : w'.ownsRow base 42 3 v n xs := by
  refine ⟨h.1, ?_⟩
  rcases h.2 with h2 | ⟨g, cap, cur, h1, h2, h3, h4⟩
  · exact Or.inl h2
  · exact Or.inr ⟨g, cap, cur, h1, h2, (hb g (by rw [h1]; rfl)).trans h3, h4⟩
theorem own_form26 {w : World} {base n : Nat} {v : Value} {xs : List Value} (h : w.ownsRow base 42 3 v n xs) : ∃ a c, v = .slice a n c := by
  rcases h.2 with ⟨rfl, rfl⟩ | ⟨g, cap, cur, rfl, _⟩
  · exact ⟨none, 0, rfl⟩
  · exact ⟨_, _, rfl⟩
theorem CmI.keeps {g : Nat} {w : World} {O X : Nat → Prop} {s : List (Nat × Nat × Nat)} {v : Value} {V V' : World} (h : CmI g w O s v V) (hk : Keeps X V V') (hX : ∀ k, X k → w.heap.size ≤ k ∧ ¬ O k) : CmI g w O s v V' :=
  ⟨h.o, h.b.keeps hk (fun e => (hX _ e).2 ((h.o g).2 (Or.inl rfl))), own_blk26 h.r (fun q hq => hk.block q (own_lt26 h.r hq).2 (fun e => (hX _ e).2 ((h.o q).2 (Or.inr hq)))), h.bl.trans (hk.below h.bl.size (fun j hj e => by have := (hX _ e).1; omega))⟩

attribute [local irreducible] mvs
attribute [local go_sem] Oper.semAt_some wide_fn wide_fn0 wide_depth

set_option maxRecDepth 100000 in
set_option maxHeartbeats 8000000 in
theorem appendSeq_any (sb b : Nat) (p : Ps) (hM : MayP p) (w : World) (hR : MlR sb b p.Z (p.t : Nat) (p.k : Nat) p.e (p.h : Nat) (p.f : Nat) w) :
    Calls Tryd.prog 45 #[.slice none 0 0, .func (.func 69) #[] #[.pointer (some ⟨sb, 0, none⟩)]] w fun e w' => ∃ v, e = .returned v ∧ w'.ownsRow w.heap.size 42 3 v (mvs p).length (flM (mvs p)) ∧ Below w.heap.size w w' := by
  have HLT := hide hR.lt
  have HSQ := hide (movesP_seq sb b p hM)
  have hln := mvs_len p
  obtain ⟨XS, hXS⟩ : ∃ XS, mvs p = XS := ⟨_, rfl⟩
  rw [hXS] at HSQ hln ⊢
  clear hXS
  have HLN := hide hln
  obtain ⟨g, hg⟩ : ∃ g, w.heap.size = g := ⟨_, rfl⟩
  obtain ⟨w1, hw1⟩ : ∃ w1, w.alloc (.cells #[.slice none 0 0] 25) = w1 := ⟨_, rfl⟩
  have B1 : Below w.heap.size w w1 := by rw [← hw1]; exact (Below.refl _ w).alloc (Nat.le_refl _) _
  have s1 : w1.heap.size = g + 1 := by rw [← hw1, ← hg]; simp
  have R1 := hR.keeps (X := fun _ => False) (Keeps.of_all B1) (fun _ _ e => e)
  have HI1 : Hid (CmI g w (fun j => j = g) [] (.slice none 0 0) w1) := hide ⟨fun j => by simp [Value.ownBlock], by rw [← hw1, ← hg]; exact Vb.new w 25 [.slice none 0 0], World.ownsRow_nil _ _ _ _, B1⟩
  have HS1 := hide s1
  have HR1 := hide R1
  have HG := hide hg
  clear hR hln B1 R1
  refine (callsIn_wide (n := 3)).1 ?_
  refine callsIn_of_wp_marks Tryd.func45 rfl trivial ?_ rfl
  simp only [Tryd.ntmps45, List.size_toArray, List.length_cons, List.length_nil, Nat.reduceAdd, Nat.reduceSub, Array.replicate_succ, Array.replicate_zero, List.push_toArray, List.append_toArray, List.nil_append, List.cons_append]
  refine wpIn_wide.2 ?_
  go_upto_region 1 with fail
  try rw [hg]
  clear hw1 s1
  go_wp2_with fail
  refine (wpIn_wide (n := 1)).1 (wp_range_o (gf := 69) (lb := #[.pointer (some ⟨sb, 0, none⟩)]) (G := MvG) (xs := XS) (R := MlR sb b p.Z (p.t : Nat) (p.k : Nat) p.e (p.h : Nat) (p.f : Nat)) (T := MlT sb b) (by simp [Act.eval]) (enters_of Tryd.func69 (by kernel_rfl) rfl)
    HSQ.out (fun j hj => HR1.out.lt j hj) (fun A hA => HR1.out.keeps (X := fun _ => False) (Keeps.of_all hA) (fun _ _ h => h)) (fun x args W' hG => by rw [hG]; rfl)
    (fun O s W' => ∃ v, CmI g w O s v W') (fun _ _ _ => False) (fun j => j = g) ?hC ⟨_, HI1.out⟩ ?round ?done (fun _ _ _ _ _ h => h.elim))
  case hC =>
    intro d
    have z1 := HS1.out
    have zg := HG.out
    refine ⟨?_, (fun _ _ h => h.elim), ?_, (fun _ _ _ h => h.elim)⟩
    · rintro O s A ⟨v, h⟩ j hj
      rcases (h.o j).1 hj with rfl | e
      · exact ⟨h.b.lt, fun e => by have := HLT.out _ e; omega⟩
      · have := own_lt26 h.r e
        exact ⟨this.2, fun e => by have := HLT.out _ e; omega⟩
    · rintro O s A B ⟨v, h⟩ hk
      exact ⟨v, h.keeps hk (fun k e => ⟨by have := e.1; omega, e.2⟩)⟩
  case round =>
    rintro l2 O s m args W6 hl2 ⟨rec, hrec⟩ ⟨v, hI6⟩ hOl _ _ hpre hGx hsz6
    obtain rfl : args = #[mvV m] := hGx
    have hpl : s.length ≤ 16384 := by
      have h1 := hpre.length_le
      rw [List.length_append, List.length_singleton] at h1
      have h2 := HLN.out
      omega
    have HPL : Hid (s.length + 1 = (s ++ [m]).length) := hide (by simp)
    have HOL := hide hOl
    have HSZ6 := hide hsz6
    have HL2 := hide hl2
    obtain ⟨gA, hgA⟩ : ∃ gA, W6.heap.size = gA := ⟨_, rfl⟩
    obtain ⟨WB, hWB⟩ : ∃ WB, W6.alloc (.cells #[.int .i64 0, .int .i64 0, .int .i64 0] 42) = WB := ⟨_, rfl⟩
    have VB : Vb WB gA 42 [.int .i64 0, .int .i64 0, .int .i64 0] := by rw [← hWB, ← hgA]; exact Vb.new W6 42 _
    have BB : Below W6.heap.size W6 WB := by rw [← hWB]; exact (Below.refl _ _).alloc (Nat.le_refl _) _
    have HI6 := hide (hI6.keeps (X := fun _ => False) (Keeps.of_all BB) (fun _ e => e.elim))
    have HOO : Hid (∀ j, O j → j < W6.heap.size) := hide (fun j hj => by
      rcases (hI6.o j).1 hj with rfl | e
      · exact hI6.b.lt
      · exact (own_lt26 hI6.r e).2)
    have HBB := hide BB
    have HGA := hide hgA
    clear hI6 hpre hrec hOl hsz6 hl2 BB
    gi_wp2_with (refine wpListIn_store_vb rfl 42 (.tmp 5) (.tmp 7) rfl gA (mvC m) _ (by simp [Act.eval]) rfl VB rfl row26 (mvC_one m) ?_; intro WC VC KC)
    clear hWB VB
    have BC : Below W6.heap.size W6 WC := HBB.out.trans (KC.below HBB.out.size (fun j hj e => by have := HGA.out; omega))
    refine ⟨BC, ?_⟩
    intro W3 hk3
    have zl := HL2.out
    have zs := HSZ6.out
    have z1 := HS1.out
    have zg := HGA.out
    have zw := HG.out
    have K3 : Keeps (fun j => j = gA ∨ j = l2) WB W3 := (KC.mono (fun _ _ e => Or.inl e)).trans (hk3.mono (fun _ _ e => Or.inr e))
    have I3 : CmI g w O s v W3 := HI6.out.keeps K3 (fun k e => ⟨by omega, fun h => by
      rcases e with rfl | rfl
      · have := HOO.out _ h; omega
      · exact HOL.out h⟩)
    have M3 := VC.keeps hk3 (fun e => by omega)
    have HW3 : Hid (g + 3 ≤ W3.heap.size ∧ gA < W3.heap.size) := hide ⟨by have := M3.lt; omega, M3.lt⟩
    obtain ⟨a3, c3, rfl⟩ := own_form26 I3.r
    have HI3 := hide I3
    have cs := I3.b.cell (i := 0) rfl
    have mc0 := M3.cell (i := 0) rfl
    have mc1 := M3.cell (i := 1) rfl
    have mc2 := M3.cell (i := 2) rfl
    obtain ⟨d, hd⟩ : ∃ d, W3.heap.size = d := ⟨_, rfl⟩
    obtain ⟨W4, hW4⟩ : ∃ W4, W3.alloc (.cells #[.int .i64 (m.1 : Nat), .int .i64 (m.2.1 : Nat), .int .i64 (m.2.2 : Nat)] 42) = W4 := ⟨_, rfl⟩
    have V4 : Vb W4 d 42 (mvC m) := by rw [← hW4, ← hd]; exact Vb.new W3 42 _
    have B4 : Below W3.heap.size W3 W4 := by rw [← hW4]; exact (Below.refl _ _).alloc (Nat.le_refl _) _
    have I4 := I3.keeps (X := fun _ => False) (Keeps.of_all B4) (fun _ e => e.elim)
    have hrow := I4.r
    obtain ⟨n, hn⟩ : ∃ n, s.length = n := ⟨_, rfl⟩
    have HNL := hide hn
    have HI4 := hide I4
    have HB4 := hide B4
    have hbase : g + 1 ≤ W4.heap.size := by have := HW3.out; have := B4.size; omega
    rw [hn] at hpl HPL hrow cs
    clear hk3 HI6 I3 hn I4 B4 K3 BC KC VC M3 zl zs z1 zg zw HBB HGA hgA
    gi_wp2_with (gi_at_builtin; refine wpListIn_append_m _ rfl _ _ rfl (g + 1) _ n s rfl hrow d m rfl V4 (by omega) hbase ?_)
    intro v' w4 hO4 hg4 hst
    obtain ⟨a4, c4, rfl⟩ := own_form26 hO4
    have hob : ∀ j, (Value.slice a3 n c3).ownBlock = some j → O j := fun j hj => (HI3.out.o j).2 (Or.inr (by rw [HNL.out]; exact hj))
    have hobl : ∀ j, (Value.slice a3 n c3).ownBlock = some j → g + 1 ≤ j := fun j hj => (own_lt26 HI3.out.r (by rw [HNL.out]; exact hj)).1
    have K34 : Keeps O W3 w4 := by
      refine (Keeps.of_all HB4.out).trans ?_
      exact ⟨hg4.os, hg4.tape, hg4.output, hg4.size, fun i hi hx => hg4.block i hi (fun e => hx (hob i e.symm))⟩
    have V5 : Vb w4 g 25 [.slice a3 n c3] := by
      have hb := HI4.out.b.lt
      have e1 := hg4.block g hb (fun e => by have := hobl _ e.symm; omega)
      have := HI4.out.b
      rw [HNL.out] at this
      exact e1.trans this
    have cs4 := V5.cell (i := 0) rfl
    have fs4 := V5.frozen 0
    have HB5 : Hid (Below w.heap.size w w4) := hide (HI3.out.bl.trans (K34.below HI3.out.bl.size (fun j hj e => by
      have zg := HG.out
      rcases (HI3.out.o j).1 e with e | e
      · omega
      · have := hobl j (by rw [HNL.out] at e; exact e); omega)))
    have kk := Keeps.set1 w4 g 0 (.slice a4 (n + 1) c4)
    have HO5 : Hid ((w4.setCell ⟨g, 0, none⟩ (.slice a4 (n + 1) c4)).ownsRow (g + 1) 42 3 (.slice a4 (n + 1) c4) (n + 1) (flM (s ++ [m]))) := hide (own_blk26 hO4 (fun q hq => kk.block q (own_lt26 hO4 hq).2 (fun e => by have := (own_lt26 hO4 hq).1; omega)))
    have HV5 : Hid (Vb (w4.setCell ⟨g, 0, none⟩ (.slice a4 (n + 1) c4)) g 25 [.slice a4 (n + 1) c4]) := hide (V5.set 0 _)
    have HK5 : Hid (Keeps O W3 (w4.setCell ⟨g, 0, none⟩ (.slice a4 (n + 1) c4))) := hide (K34.trans (kk.mono (fun j _ e => (HI3.out.o j).2 (Or.inl e))))
    have HB6 : Hid (Below w.heap.size w (w4.setCell ⟨g, 0, none⟩ (.slice a4 (n + 1) c4))) := hide (HB5.out.trans (kk.below HB5.out.size (fun j hj e => by have := HG.out; omega)))
    have HNW : Hid (∀ k, k < W3.heap.size → (k = g ∨ (Value.slice a4 (n + 1) c4).ownBlock = some k) → O k) := hide (fun k hk h => by
      rcases h with h | h
      · exact (HI3.out.o k).2 (Or.inl h)
      · rcases hst k h with e | e
        · exact hob k e
        · have := HB4.out.size; omega)
    clear hO4 hg4 hst K34 V5 kk hrow cs hob hobl mc0 mc1 mc2 hW4
    gi_wp2_with fail
    refine ⟨HK5.out, fun k => k = g ∨ (Value.slice a4 (n + 1) c4).ownBlock = some k, HNW.out, .slice a4 (n + 1) c4, fun _ => Iff.rfl, HV5.out, ?_, HB6.out⟩
    rw [← HPL.out]
    exact HO5.out
  case done =>
    rintro D O W5 hD ⟨v, hI⟩ _ hm hK
    obtain ⟨a5, c5, rfl⟩ := own_form26 hI.r
    have cs := hI.b.cell (i := 0) rfl
    have HMK : Hid (Mks O (g + 1) W5 [{ target := .collected D, args := #[] }]) := hide ⟨[D], rfl, by simp, fun E hE => by rw [List.mem_singleton.1 hE]; exact ⟨hK, by have := HS1.out; omega, fun h => by have := hm D (by omega) h; have := HS1.out; omega⟩⟩
    have HI := hide hI
    clear hI hm hK hD
    go_wp2
    refine leaves_mks HMK.out (fun w9 hk9 => ?_)
    refine ⟨_, results_tmp rfl _ _ _, _, rfl, ?_, ?_⟩
    · exact own_base (own_blk26 HI.out.r (fun q hq => hk9.block q (own_lt26 HI.out.r hq).2 (fun e => e.2 ((HI.out.o q).2 (Or.inr hq))))) (by have := HG.out; omega)
    · exact HI.out.bl.trans (hk9.below HI.out.bl.size (fun j hj e => by have := e.1; have := HG.out; omega))

theorem collect_any (sb b : Nat) (p : Ps) (hM : MayP p) (w : World) (hR : MlR sb b p.Z (p.t : Nat) (p.k : Nat) p.e (p.h : Nat) (p.f : Nat) w) :
    Calls Tryd.prog 19 #[.func (.func 69) #[] #[.pointer (some ⟨sb, 0, none⟩)]] w fun e w' => ∃ v, e = .returned v ∧ w'.ownsRow w.heap.size 42 3 v (mvs p).length (flM (mvs p)) ∧ Below w.heap.size w w' := by
  have H := hide (appendSeq_any sb b p hM w hR)
  clear hR
  go_enter Tryd.func19, Tryd.ntmps19
  go_wp2_with fail
  refine H.out.mono ?_
  rintro e w1 ⟨v, rfl, hO, hb⟩
  have HO := hide hO
  have HB := hide hb
  clear hO hb
  go_wp2_with fail
  go_ret
  exact ⟨v, rfl, HO.out, HB.out⟩

end Go.Proofs.YtdmlamnonbmboaaDoor
