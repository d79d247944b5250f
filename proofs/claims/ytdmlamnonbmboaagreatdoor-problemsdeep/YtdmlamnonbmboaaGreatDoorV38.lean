/-
  Rows of moves: appended to, read. No conditions beyond those that each theorem bears.
-/
import Derived.Test.YtdmlamnonbmboaaGreatDoorV32
import Derived.Test.YtdmlamnonbmboaaGreatDoorV35
namespace Go.Proofs.YtdmlamnonbmboaaGreatDoor
open Go.RowKit Go.Shelf

theorem Tryz.info32 : (Tryz.prog.info? 32).map (fun i => (i.zero, i.size, i.bytes)) = some (some (.agg #[.int .i64 0, .int .i64 0, .int .i64 0]), 3, 24) := by kernel_rfl
theorem Tryz.underlyingM : Tryz.prog.underlying 28 = some (.slice 32) := by kernel_rfl

/-- The cells of a row of moves. -/
def flM (L : List (Nat × Nat × Nat)) : List Value := L.flatMap mvC
theorem flM_nil : flM [] = [] := rfl
theorem flM_app (A B : List (Nat × Nat × Nat)) : flM (A ++ B) = flM A ++ flM B := by unfold flM; rw [List.flatMap_append]
theorem flM_one (m : Nat × Nat × Nat) : flM [m] = mvC m := by unfold flM; simp
theorem flM_cons (m : Nat × Nat × Nat) (L : List (Nat × Nat × Nat)) : flM (m :: L) = mvC m ++ flM L := rfl
theorem flM_len : ∀ L, (flM L).length = L.length * 3
  | [] => rfl
  | m :: L => by
    have h : (m :: L).length = L.length + 1 := rfl
    rw [flM_cons, List.length_append, flM_len L, h]
    show 3 + _ = _
    omega
theorem flM_at : ∀ (L : List (Nat × Nat × Nat)) (i : Nat) (m : Nat × Nat × Nat), L[i]? = some m → ∀ j, j < 3 → (flM L)[i * 3 + j]? = (mvC m)[j]?
  | [], i, m, h, j, _ => by simp at h
  | x :: L, 0, m, h, j, hj => by
    have : x = m := by simpa using h
    subst this
    rw [flM_cons, Nat.zero_mul, Nat.zero_add, List.getElem?_append_left (by show j < 3; omega)]
  | x :: L, i + 1, m, h, j, hj => by
    have h' : L[i]? = some m := by simpa using h
    rw [flM_cons, List.getElem?_append_right (by show 3 ≤ _; omega)]
    have : (i + 1) * 3 + j - (mvC x).length = i * 3 + j := by show (i + 1) * 3 + j - 3 = _; omega
    rw [this]
    exact flM_at L i m h' j hj

theorem append_place26 (w : World) (base : Nat) (v : Value) (n : Nat) (vs : List Value) (hown : w.ownsRow base 32 3 v n vs) (ad : Addr) (us : List Value) (m c ty : Nat) (hl0 : us.length = m * 3) (hnews : ∀ j u, us[j]? = some u → w.cell? (ad.add j) = some u) (hone : ∀ u ∈ us, u.oneCell' = true) (hn : n + m ≤ 1000000000) (hm : 0 < m) (v' : Value) (w' : World)
    (hr : (Builtin.append_ #[28, 28] ty #[v, .slice (some ad) m c]).run Tryz.prog w = .ok v' w') : v'.ownBlock = v.ownBlock ∨ v'.ownBlock = some w.heap.size := by
  obtain ⟨i0, hi, hz0, hz1, hz2⟩ := info_parts Tryz.info32
  have hl : us.length = m * i0.size := by rw [hz1]; omega
  rcases hown.2 with ⟨rfl, rfl⟩ | ⟨g, cap, cur, rfl, hbg, hg, hnc, hcm, hcs, htake⟩
  · right
    have h1 := run_append_nil (P := Tryz.prog) w 28 ty 32 i0 _ Tryz.underlyingM hi hz0 ad m c us hl hnews (by omega) (by omega) (by rw [hz2]; omega)
    rw [h1] at hr
    simp only [Result.ok.injEq] at hr
    rw [← hr.1]
    rfl
  · by_cases hroom : n + m ≤ cap
    · left
      have hfit : n * i0.size + us.length ≤ cur.size := by rw [hl, hcs, hz1]; omega
      have h1 := run_append_room (P := Tryz.prog) w 28 ty 32 i0 Tryz.underlyingM hi g n cap cur hg ad m c us hl hnews hone hroom hfit
      rw [h1] at hr
      simp only [Result.ok.injEq] at hr
      rw [← hr.1]
      rfl
    · right
      have h1 := run_append_grow (P := Tryz.prog) w 28 ty 32 i0 _ Tryz.underlyingM hi hz0 ⟨g, 0, none⟩ n cap vs (by rw [hown.1, hz1]) (hown.cells (g := g) rfl) ad m c us hl hnews (by omega) (by omega) (growslice_fits (by omega) (by rw [hz2]; omega))
      rw [h1] at hr
      simp only [Result.ok.injEq] at hr
      rw [← hr.1]
      rfl

/-- 'append(s, m)', s the call's own, m a move that lies in a block of its own. -/
theorem wp_append_m {o : Oper} {a : Act} {K : Act → World → Prop} {Q : Exit → Act → World → Prop} (w : World) (s x : Operand)
    (ho : o.op = .call { callee := .builtin .append, args := #[s, x], argTypes := #[28, 28] }) (base : Nat) (v : Value) (n : Nat) (L : List (Nat × Nat × Nat)) (hs : a.eval s = v) (hown : w.ownsRow base 32 3 v n (flM L))
    (b : Nat) (m : Nat × Nat × Nat) (hx : a.eval x = .slice (some ⟨b, 0, none⟩) 1 1) (hb : Vb w b 32 (mvC m)) (hlen : n + 1 ≤ 1000000000) (hbase : base ≤ w.heap.size)
    (h : ∀ v' w', w'.ownsRow base 32 3 v' (n + 1) (flM (L ++ [m])) → w.grownBy w' v.ownBlock → (∀ g, v'.ownBlock = some g → v.ownBlock = some g ∨ w.heap.size ≤ g) → K (a.put o.dst v') w') : o.wp Tryz.prog a w K Q := by
  obtain ⟨i0, hi, hz0, hz1, hz2⟩ := info_parts Tryz.info32
  have hnews : ∀ j u, (mvC m)[j]? = some u → w.cell? ((⟨b, 0, none⟩ : Addr).add j) = some u := by
    intro j u hu
    rw [Addr.add_lit, Nat.zero_add]
    exact hb.cell hu
  obtain ⟨v', w', hr, h2, h3, -⟩ := run_append_own (P := Tryz.prog) w base 28 o.type 32 i0 _ 3 24 Tryz.underlyingM hi hz0 hz1 hz2 rfl (by decide) v n _ hown ⟨b, 0, none⟩ 1 1 (mvC m) rfl hnews (mvC_one m) (by unfold maxLen; omega) (by omega) hbase
  have h4 := append_place26 w base v n _ hown ⟨b, 0, none⟩ (mvC m) 1 1 o.type rfl hnews (mvC_one m) hlen (by omega) v' w' hr
  unfold Oper.wp
  simp [execOp, ho, resolve, invoke, builtin, hs, hx, hr, Result.andThen]
  refine h v' w' (by rw [flM_app, flM_one]; exact h2) h3 (fun g hg => ?_)
  rcases h4 with e | e
  · exact Or.inl (e ▸ hg)
  · rw [hg, Option.some.injEq] at e; exact Or.inr (by omega)
theorem wpListIn_append_m {l d : Nat} {ops : Array Oper} {rest : List Oper} {o : Oper} {a : Act} {Q : Exit → Act → World → Prop} (w : World) (hgd : o.guard = none) (s x : Operand)
    (ho : o.op = .call { callee := .builtin .append, args := #[s, x], argTypes := #[28, 28] }) (base : Nat) (v : Value) (n : Nat) (L : List (Nat × Nat × Nat)) (hs : a.eval s = v) (hown : w.ownsRow base 32 3 v n (flM L))
    (b : Nat) (m : Nat × Nat × Nat) (hx : a.eval x = .slice (some ⟨b, 0, none⟩) 1 1) (hb : Vb w b 32 (mvC m)) (hlen : n + 1 ≤ 1000000000) (hbase : base ≤ w.heap.size)
    (h : ∀ v' w', w'.ownsRow base 32 3 v' (n + 1) (flM (L ++ [m])) → w.grownBy w' v.ownBlock → (∀ g, v'.ownBlock = some g → v.ownBlock = some g ∨ w.heap.size ≤ g) → wpListIn (Fence.wide.inRound l) d Tryz.prog ops Q rest (a.put o.dst v') w') : wpListIn (Fence.wide.inRound l) d Tryz.prog ops Q (o :: rest) a w :=
  wpListIn_plain hgd fun _ hK => oper_round (fun c e => by rw [ho] at e; cases e) (wp_append_m w s x ho base v n L hs hown b m hx hb hlen hbase fun v' w' h1 h2 h3 => hK _ _ (h v' w' h1 h2 h3))
theorem wpList_append_m {ops : Array Oper} {rest : List Oper} {o : Oper} {a : Act} {Q : Exit → Act → World → Prop} (w : World) (hgd : o.guard = none) (s x : Operand)
    (ho : o.op = .call { callee := .builtin .append, args := #[s, x], argTypes := #[28, 28] }) (base : Nat) (v : Value) (n : Nat) (L : List (Nat × Nat × Nat)) (hs : a.eval s = v) (hown : w.ownsRow base 32 3 v n (flM L))
    (b : Nat) (m : Nat × Nat × Nat) (hx : a.eval x = .slice (some ⟨b, 0, none⟩) 1 1) (hb : Vb w b 32 (mvC m)) (hlen : n + 1 ≤ 1000000000) (hbase : base ≤ w.heap.size)
    (h : ∀ v' w', w'.ownsRow base 32 3 v' (n + 1) (flM (L ++ [m])) → w.grownBy w' v.ownBlock → (∀ g, v'.ownBlock = some g → v.ownBlock = some g ∨ w.heap.size ≤ g) → wpList Tryz.prog ops Q rest (a.put o.dst v') w') : wpList Tryz.prog ops Q (o :: rest) a w :=
  wpList_plain hgd fun _ hK => wp_append_m w s x ho base v n L hs hown b m hx hb hlen hbase fun v' w' h1 h2 h3 => hK _ _ (h v' w' h1 h2 h3)

/-- A row of moves that can be read. -/
structure Mr (w : World) (v : Value) (L : List (Nat × Nat × Nat)) : Prop where
  ex : ∃ a c, v = .slice a L.length c ∧ L.length ≤ c ∧ c ≤ maxLen ∧ (0 < L.length → ∃ g, a = some ⟨g, 0, none⟩ ∧ ∀ i u, (flM L)[i]? = some u → w.cell? ⟨g, i, none⟩ = some u)
theorem Mr.of_own {w : World} {base : Nat} {v : Value} {L : List (Nat × Nat × Nat)} (h : w.ownsRow base 32 3 v L.length (flM L)) : Mr w v L := by
  rcases h.2 with ⟨rfl, h0⟩ | ⟨g, cap, cur, rfl, hb, hg, hnc, hcm, hcs, ht⟩
  · exact ⟨none, 0, by rw [h0], by omega, by unfold maxLen; omega, fun hp => by omega⟩
  · refine ⟨_, _, rfl, hnc, hcm, fun _ => ⟨g, rfl, fun i u hu => ?_⟩⟩
    rw [← ht] at hu
    have h2 : cur.toList[i]? = some u := by
      rw [List.getElem?_take] at hu
      split at hu
      · exact hu
      · cases hu
    simp [World.cell?, hg]
    simpa using h2
theorem Mr.mono {w w' : World} {v : Value} {L : List (Nat × Nat × Nat)} (h : Mr w v L) (hb : Below w.heap.size w w') : Mr w' v L := by
  obtain ⟨a, c, h1, h2, h3, h4⟩ := h.ex
  refine ⟨a, c, h1, h2, h3, fun hp => ?_⟩
  obtain ⟨g, h5, h6⟩ := h4 hp
  exact ⟨g, h5, fun i u hu => (hb.cell (p := ⟨g, i, none⟩) (World.block_lt_of_cell? w _ (h6 i u hu))).trans (h6 i u hu)⟩

end Go.Proofs.YtdmlamnonbmboaaGreatDoor
