/-
  Lists of lists that are grown one by one, and what the document's Ints answers. No conditions beyond those that each theorem bears.
-/
import Derived.Test.YtdhacmcdbpojlaaOthers
import Derived.Test.YtdhacmcdbpojlaaRefBest
import Derived.Test.YtdhacmcdbpojlaaSuitMath
namespace Go.Proofs.Ytdhacmcdbpojlaa
open Go.RowKit Go.Shelf

set_option maxHeartbeats 400000 in
theorem intsR_own (a : Option Addr) (n c : Nat) (zs : List Int) (w : World) (h : Rd w a n c zs) (hr : n * 8 ≤ 140737488351232) :
    Calls Try.prog 34 #[.slice a n c] w fun e w' => ∃ a' c', e = .returned (.slice a' n c') ∧ w'.ownsRow w.heap.size 3 1 (.slice a' n c') n (zs.map (Value.int .i64)) ∧ Below w.heap.size w w' := by
  obtain ⟨i0, hi, hz0, hz1, hz2⟩ := info_parts Try.info3
  cases a with
  | none =>
    obtain rfl := h.nil rfl
    obtain rfl : n = 0 := by have := h.cap; omega
    go_enter Try.func34, Try.ntmps34
    go_wp2_with (at_builtin; refine wpList_append_own_none rfl _ _ 22 rfl w.heap.size 3 i0 1 Try.underlying22 hi _ 0 [] rfl (World.ownsRow_nil _ _ _ _) rfl ?_)
    go_ret
    have hz : zs = [] := List.eq_nil_of_length_eq_zero h.len
    subst hz
    exact ⟨_, _, rfl, World.ownsRow_nil _ _ _ _, Below.refl _ _⟩
  | some ad =>
    have hcell : ∀ j u, (zs.map (Value.int .i64))[j]? = some u → w.cell? (ad.add j) = some u := by
      intro j u hu
      have hj : j < n := by have := (List.getElem?_eq_some_iff.1 hu).1; simpa [h.len] using this
      obtain ⟨b, off, he, hc⟩ := h.cells (by omega)
      obtain rfl := Option.some.inj he
      rw [Addr.add_lit, hc j hj]
      have hz : j < zs.length := by rw [h.len]; exact hj
      simpa [List.getD, hz] using hu
    have hl : (zs.map (Value.int .i64)).length = n * 1 := by simp [h.len]
    have hone := ints_oneCell .i64 zs
    have hmax : 0 + n ≤ maxLen := by have := h.cap; have := h.max; omega
    have hle : Hid (zs.length = n) := h.len
    go_enter Try.func34, Try.ntmps34
    go_wp2_with (at_builtin; refine wpList_append_own _ rfl _ _ 22 rfl w.heap.size 3 i0 (.int .i64 0) 1 8 Try.underlying22 hi hz0 hz1 hz2 rfl (by decide) _ 0 [] rfl (World.ownsRow_nil _ _ _ _) ad n c (zs.map (Value.int .i64)) rfl hl hcell hone hmax (by omega) (Nat.le_refl _) ?_)
    intro v' w1 hown hgrow _
    have hex : ∃ a' c', v' = .slice a' n c' := by
      rcases hown.2 with ⟨hv, h0⟩ | ⟨g, cap, cur, hv, _⟩
      · exact ⟨none, 0, by rw [hv]; simp; omega⟩
      · exact ⟨_, _, hv⟩
    obtain ⟨a', c', rfl⟩ := hex
    have B : Below w.heap.size w w1 := (Below.refl _ _).grown hgrow (Nat.le_refl _) (fun k hk => by simp [Value.ownBlock] at hk)
    clear hgrow
    have HO := hide hown
    clear hown
    go_wp2
    go_ret
    exact ⟨_, _, rfl, HO.out, B⟩


theorem rd_grown {W W' : World} {row : Option Nat} {a : Option Addr} {n c : Nat} {zs : List Int} (h : Rd W a n c zs) (hG : W.grownBy W' row) (hne : ∀ b off, a = some ⟨b, off, none⟩ → some b ≠ row) : Rd W' a n c zs :=
  ⟨h.len, h.cap, h.max, h.nil, fun h0 => by
    obtain ⟨b, off, e, hc⟩ := h.cells h0
    exact ⟨b, off, e, fun i hi => hG.cell (hc i hi) (hne b off e)⟩⟩

theorem own_ty {w : World} {base n b : Nat} {v : Value} {xs : List Value} {cur : Array Value} (h : w.ownsRow base 22 1 v n xs) (hb : w.heap[b]? = some (.cells cur 3 (0, 0))) : some b ≠ v.ownBlock := by
  intro e
  rcases h.2 with ⟨rfl, _⟩ | ⟨g, cap, cur', rfl, _, hg, _⟩
  · simp [Value.ownBlock] at e
  · simp only [Value.ownBlock, Option.some.injEq] at e
    subst e
    rw [hb] at hg
    simp at hg

/-- A list of lists, each its own. -/
def FlV (W : World) (vs : List Value) (Fs : List (List Nat)) : Prop :=
  ∀ j, j < Fs.length → ∃ a c, vs[j]? = some (.slice a (Fs.getD j []).length c) ∧ Rd W a (Fs.getD j []).length c (toI (Fs.getD j [])) ∧ (∀ b off, a = some ⟨b, off, none⟩ → ∃ cur, W.heap[b]? = some (.cells cur 3 (0, 0)))
def Fl (base : Nat) (W : World) (v : Value) (Fs : List (List Nat)) : Prop := ∃ vs : List Value, W.ownsRow base 22 1 v Fs.length vs ∧ FlV W vs Fs

theorem Fl.nil (base : Nat) (W : World) : Fl base W (.slice none 0 0) [] := ⟨[], World.ownsRow_nil _ _ _ _, fun j hj => by simp at hj⟩

theorem own22_below {w w' : World} {base n : Nat} {v : Value} {xs : List Value} (h : w.ownsRow base 22 1 v n xs) (hB : Below w.heap.size w w') : w'.ownsRow base 22 1 v n xs := by
  refine ⟨h.1, ?_⟩
  rcases h.2 with h0 | ⟨g, cap, cur, h1, h2, h3, h4, h5, h6, h7⟩
  · exact .inl h0
  · exact .inr ⟨g, cap, cur, h1, h2, (hB.block g (Array.getElem?_eq_some_iff.1 h3).1).trans h3, h4, h5, h6, h7⟩

theorem FlV.below {W W' : World} {vs : List Value} {Fs : List (List Nat)} (h : FlV W vs Fs) (hB : Below W.heap.size W W') : FlV W' vs Fs := by
  intro j hj
  obtain ⟨a, c, h1, h2, h3⟩ := h j hj
  refine ⟨a, c, h1, h2.mono hB, fun b off e => ?_⟩
  obtain ⟨cur, hc⟩ := h3 b off e
  exact ⟨cur, (hB.block b (Array.getElem?_eq_some_iff.1 hc).1).trans hc⟩

theorem Fl.below {base : Nat} {W W' : World} {v : Value} {Fs : List (List Nat)} (h : Fl base W v Fs) (hB : Below W.heap.size W W') : Fl base W' v Fs := by
  obtain ⟨vs, h1, h2⟩ := h
  exact ⟨vs, own22_below h1 hB, h2.below hB⟩

theorem Fl.push {base : Nat} {W W' : World} {v v' : Value} {Fs : List (List Nat)} {vs : List Value} (h1 : W.ownsRow base 22 1 v Fs.length vs) (h2 : FlV W vs Fs) (F : List Nat) {a : Option Addr} {c : Nat}
    (hR : Rd W a F.length c (toI F)) (hty : ∀ b off, a = some ⟨b, off, none⟩ → ∃ cur, W.heap[b]? = some (.cells cur 3 (0, 0)))
    (hO : W'.ownsRow base 22 1 v' (Fs.length + 1) (vs ++ [.slice a F.length c])) (hG : W.grownBy W' v.ownBlock) : Fl base W' v' (Fs ++ [F]) := by
  have hl : vs.length = Fs.length := by have := h1.1; omega
  have keep : ∀ {a : Option Addr} {n c : Nat} {zs : List Int}, Rd W a n c zs → (∀ b off, a = some ⟨b, off, none⟩ → ∃ cur, W.heap[b]? = some (.cells cur 3 (0, 0))) → Rd W' a n c zs ∧ (∀ b off, a = some ⟨b, off, none⟩ → ∃ cur, W'.heap[b]? = some (.cells cur 3 (0, 0))) := by
    intro a n c zs hr ht
    refine ⟨rd_grown hr hG (fun b off e => ?_), fun b off e => ?_⟩
    · obtain ⟨cur, hc⟩ := ht b off e
      exact own_ty h1 hc
    · obtain ⟨cur, hc⟩ := ht b off e
      exact ⟨cur, (hG.block b (Array.getElem?_eq_some_iff.1 hc).1 (own_ty h1 hc)).trans hc⟩
  refine ⟨vs ++ [.slice a F.length c], by rw [List.length_append, List.length_singleton]; exact hO, fun j hj => ?_⟩
  rw [List.length_append, List.length_singleton] at hj
  by_cases hj' : j < Fs.length
  · obtain ⟨a', c', e1, e2, e3⟩ := h2 j hj'
    have eg : (Fs ++ [F]).getD j [] = Fs.getD j [] := by simp [List.getD, List.getElem?_append_left hj']
    rw [eg]
    exact ⟨a', c', by rw [List.getElem?_append_left (by omega)]; exact e1, (keep e2 e3).1, (keep e2 e3).2⟩
  · obtain rfl : j = Fs.length := by omega
    have eg : (Fs ++ [F]).getD Fs.length [] = F := by simp [List.getD]
    rw [eg]
    exact ⟨a, c, by rw [← hl]; simp, (keep hR hty).1, (keep hR hty).2⟩

theorem form22 {w : World} {base : Nat} {v : Value} {n : Nat} {xs : List Value} (h : w.ownsRow base 22 1 v n xs) : ∃ a c, v = .slice a n c := by
  rcases h.2 with ⟨hv, h0⟩ | ⟨g, cap, cur, hv, _⟩
  · exact ⟨none, 0, by rw [hv, h0]⟩
  · exact ⟨_, _, hv⟩

theorem Try.info22 : (Try.prog.info? 22).map (fun i => (i.zero, i.size, i.bytes)) = some (some (.slice none 0 0), 1, 24) := by kernel_rfl

theorem wp_append_fl {o : Oper} {a : Act} {K : Act → World → Prop} {Q : Exit → Act → World → Prop} (w : World) (s x : Operand)
    (ho : o.op = .call { callee := .builtin .append, args := #[s, x], argTypes := #[63, 63] }) (base : Nat) (v : Value) (Fs : List (List Nat)) (hs : a.eval s = v) (hF : Fl base w v Fs)
    (g : Nat) (F : List Nat) (fa : Option Addr) (fc : Nat) (hx : a.eval x = .slice (some ⟨g, 0, none⟩) 1 1) (hc : w.cell? ⟨g, 0, none⟩ = some (.slice fa F.length fc)) (hR : Rd w fa F.length fc (toI F))
    (hty : ∀ b off, fa = some ⟨b, off, none⟩ → ∃ cur, w.heap[b]? = some (.cells cur 3 (0, 0))) (hlen : Fs.length ≤ 1000000) (hbase : base ≤ w.heap.size)
    (h : ∀ v' w', Fl base w' v' (Fs ++ [F]) → (∃ a' c', v' = .slice a' (Fs.length + 1) c') → w.grownBy w' v.ownBlock → (∀ k, v.ownBlock = some k → base ≤ k) → K (a.put o.dst v') w') : o.wp Try.prog a w K Q := by
  obtain ⟨i0, hi, hz0, hz1, hz2⟩ := info_parts Try.info22
  obtain ⟨vs, h1, h2⟩ := hF
  refine wp_append_own w s x 63 ho base 22 i0 (.slice none 0 0) 1 24 Try.underlying63 hi hz0 hz1 hz2 rfl (by decide) v Fs.length vs hs h1 ⟨g, 0, none⟩ 1 1 [.slice fa F.length fc] hx (by simp) ?_ (by simp [Value.oneCell']) (by unfold maxLen; omega) (by omega) hbase ?_
  · intro j u hu
    match j with
    | 0 =>
      simp only [List.getElem?_cons_zero, Option.some.injEq] at hu
      subst hu
      rw [Addr.add_lit]
      exact hc
    | j + 1 => simp at hu
  · intro v' w' ho' hg _
    exact h v' w' (Fl.push h1 h2 F hR hty ho' hg) (form22 ho') hg (fun k hk => (h1.lt k hk).1)

theorem wpList_append_fl {ops : Array Oper} {rest : List Oper} {o : Oper} {a : Act} {Q : Exit → Act → World → Prop} (w : World) (hgd : o.guard = none) (s x : Operand)
    (ho : o.op = .call { callee := .builtin .append, args := #[s, x], argTypes := #[63, 63] }) (base : Nat) (v : Value) (Fs : List (List Nat)) (hs : a.eval s = v) (hF : Fl base w v Fs)
    (g : Nat) (F : List Nat) (fa : Option Addr) (fc : Nat) (hx : a.eval x = .slice (some ⟨g, 0, none⟩) 1 1) (hc : w.cell? ⟨g, 0, none⟩ = some (.slice fa F.length fc)) (hR : Rd w fa F.length fc (toI F))
    (hty : ∀ b off, fa = some ⟨b, off, none⟩ → ∃ cur, w.heap[b]? = some (.cells cur 3 (0, 0))) (hlen : Fs.length ≤ 1000000) (hbase : base ≤ w.heap.size)
    (h : ∀ v' w', Fl base w' v' (Fs ++ [F]) → (∃ a' c', v' = .slice a' (Fs.length + 1) c') → w.grownBy w' v.ownBlock → (∀ k, v.ownBlock = some k → base ≤ k) → wpList Try.prog ops Q rest (a.put o.dst v') w') : wpList Try.prog ops Q (o :: rest) a w :=
  wpList_plain hgd fun _ hK => wp_append_fl w s x ho base v Fs hs hF g F fa fc hx hc hR hty hlen hbase fun v' w' h1 h2 h3 h4 => hK _ _ (h v' w' h1 h2 h3 h4)

end Go.Proofs.Ytdhacmcdbpojlaa
