/-
  Draughts: a way's text, read again. No conditions beyond those that each theorem bears.
-/
import Derived.Test.YtnbaangnpoblfaaDoorWz
import Derived.Test.YtnbaangnpoblfaaDoorMo
namespace Go.Proofs.YtnbaangnpoblfaaDoor
open Go.RowKit Go.Shelf

theorem append_place3 (w : World) (base : Nat) (v : Value) (n : Nat) (vs : List Value) (hown : w.ownsRow base 3 1 v n vs) (ad : Addr) (us : List Value) (m c ty : Nat) (hl0 : us.length = m) (hnews : ∀ j u, us[j]? = some u → w.cell? (ad.add j) = some u) (hone : ∀ u ∈ us, u.oneCell' = true) (hn : n + m ≤ 1000000000) (hm : 0 < m) (v' : Value) (w' : World)
    (hr : (Builtin.append_ #[22, 22] ty #[v, .slice (some ad) m c]).run Tryd.prog w = .ok v' w') : v'.ownBlock = v.ownBlock ∨ v'.ownBlock = some w.heap.size := by
  obtain ⟨i0, hi, hz0, hz1, hz2⟩ := info_parts Tryd.info3
  have hl : us.length = m * i0.size := by rw [hz1]; omega
  rcases hown.2 with ⟨rfl, rfl⟩ | ⟨g, cap, cur, rfl, hbg, hg, hnc, hcm, hcs, htake⟩
  · right
    have h1 := run_append_nil (P := Tryd.prog) w 22 ty 3 i0 (.int .i64 0) Tryd.underlying22 hi hz0 ad m c us hl hnews (by omega) (by omega) (by rw [hz2]; omega)
    rw [h1] at hr
    simp only [Result.ok.injEq] at hr
    rw [← hr.1]
    rfl
  · by_cases hroom : n + m ≤ cap
    · left
      have hfit : n * i0.size + us.length ≤ cur.size := by rw [hl, hcs, hz1]; omega
      have h1 := run_append_room (P := Tryd.prog) w 22 ty 3 i0 Tryd.underlying22 hi g n cap cur hg ad m c us hl hnews hone hroom hfit
      rw [h1] at hr
      simp only [Result.ok.injEq] at hr
      rw [← hr.1]
      rfl
    · right
      have h1 := run_append_grow (P := Tryd.prog) w 22 ty 3 i0 (.int .i64 0) Tryd.underlying22 hi hz0 ⟨g, 0, none⟩ n cap vs (by rw [hown.1, hz1]) (hown.cells (g := g) rfl) ad m c us hl hnews (by omega) (by omega) (growslice_fits (by omega) (by rw [hz2]; omega))
      rw [h1] at hr
      simp only [Result.ok.injEq] at hr
      rw [← hr.1]
      rfl

/-- 'append(s, x...)', s the call's own. -/
theorem wp_append_i {o : Oper} {a : Act} {K : Act → World → Prop} {Q : Exit → Act → World → Prop} (w : World) (s x : Operand)
    (ho : o.op = .call { callee := .builtin .append, args := #[s, x], argTypes := #[22, 22] }) (base : Nat) (v : Value) (n : Nat) (xs : List Int) (hs : a.eval s = v) (hown : w.ownsRow base 3 1 v n (xs.map (Value.int .i64)))
    (ad : Addr) (m c : Nat) (ys : List Int) (hx : a.eval x = .slice (some ad) m c) (hR : Rd w (some ad) m c ys) (hm : 0 < m) (hlen : n + m ≤ 1000000000) (hbase : base ≤ w.heap.size)
    (h : ∀ v' w', w'.ownsRow base 3 1 v' (n + m) ((xs ++ ys).map (Value.int .i64)) → w.grownBy w' v.ownBlock → (∀ g, v'.ownBlock = some g → v.ownBlock = some g ∨ w.heap.size ≤ g) → K (a.put o.dst v') w') : o.wp Tryd.prog a w K Q := by
  obtain ⟨i0, hi, hz0, hz1, hz2⟩ := info_parts Tryd.info3
  obtain ⟨v', w', hr, h2, h3, -⟩ := run_append_own (P := Tryd.prog) w base 22 o.type 3 i0 (.int .i64 0) 1 8 Tryd.underlying22 hi hz0 hz1 hz2 rfl (by decide) v n _ hown ad m c (ys.map (Value.int .i64)) (by simp [hR.len]) hR.news (ints_oneCell .i64 ys) (by unfold maxLen; omega) (by omega) hbase
  have h4 := append_place3 w base v n _ hown ad (ys.map (Value.int .i64)) m c o.type (by simp [hR.len]) hR.news (ints_oneCell .i64 ys) hlen hm v' w' hr
  unfold Oper.wp
  simp [execOp, ho, resolve, invoke, builtin, hs, hx, hr, Result.andThen]
  refine h v' w' (by rw [List.map_append]; exact h2) h3 (fun g hg => ?_)
  rcases h4 with e | e
  · exact Or.inl (e ▸ hg)
  · rw [hg, Option.some.injEq] at e; exact Or.inr (by omega)

theorem wpListIn_append_i {l d : Nat} {ops : Array Oper} {rest : List Oper} {o : Oper} {a : Act} {Q : Exit → Act → World → Prop} (w : World) (hgd : o.guard = none) (s x : Operand)
    (ho : o.op = .call { callee := .builtin .append, args := #[s, x], argTypes := #[22, 22] }) (base : Nat) (v : Value) (n : Nat) (xs : List Int) (hs : a.eval s = v) (hown : w.ownsRow base 3 1 v n (xs.map (Value.int .i64)))
    (ad : Addr) (m c : Nat) (ys : List Int) (hx : a.eval x = .slice (some ad) m c) (hR : Rd w (some ad) m c ys) (hm : 0 < m) (hlen : n + m ≤ 1000000000) (hbase : base ≤ w.heap.size)
    (h : ∀ v' w', w'.ownsRow base 3 1 v' (n + m) ((xs ++ ys).map (Value.int .i64)) → w.grownBy w' v.ownBlock → (∀ g, v'.ownBlock = some g → v.ownBlock = some g ∨ w.heap.size ≤ g) → wpListIn (Fence.wide.inRound l) d Tryd.prog ops Q rest (a.put o.dst v') w') : wpListIn (Fence.wide.inRound l) d Tryd.prog ops Q (o :: rest) a w :=
  wpListIn_plain hgd fun _ hK => oper_round (fun c e => by rw [ho] at e; cases e) (wp_append_i w s x ho base v n xs hs hown ad m c ys hx hR hm hlen hbase fun v' w' h1 h2 h3 => hK _ _ (h v' w' h1 h2 h3))

theorem words_any (s1 s2 : ByteArray) (w : World) : Calls Tryd.prog 56 #[.string s1, .string s2] w fun e w' => e = .returned (.func (.func 77) #[] #[.pointer (some ⟨w.heap.size, 0, none⟩), .pointer (some ⟨w.heap.size + 1, 0, none⟩)]) ∧ w' = (w.alloc (.cells #[.string s1] 9)).alloc (.cells #[.string s2] 9) := by
  go_enter Tryd.func56, Tryd.ntmps56
  go_wp2
  go_ret
  exact ⟨rfl, rfl⟩

theorem contains_x (j : Bool) (W : List Nat) (hW : ∀ p ∈ W, p < 100) (h2 : 2 ≤ W.length) (w : World) : Calls Tryd.prog 55 #[.string ⟨(txS j W).toArray⟩, .string ⟨#[120]⟩] w fun e w' => e = .returned (.bool j) ∧ w' = w := by
  refine (Tryd.strings_Contains_one ⟨(txS j W).toArray⟩ 120 w).mono ?_
  rintro e w' ⟨rfl, hw⟩
  refine ⟨?_, hw⟩
  have h := mem_txS (j := j) (i := true) hW
  have h120 : sgB true = 120 := rfl
  rw [h120] at h
  congr 2
  cases j with
  | false =>
    have : (120 : UInt8) ∉ txS false W := fun hm => by have := (h.1 hm).2; cases this
    rw [idx_none this]
    rfl
  | true =>
    obtain ⟨l, m, hlm⟩ := List.append_of_mem (h.2 ⟨h2, rfl⟩)
    have : ∃ l m, txS true W = l ++ 120 :: m ∧ (120 : UInt8) ∉ l := by
      have key : ∀ L : List UInt8, (120 : UInt8) ∈ L → ∃ l m, L = l ++ 120 :: m ∧ (120 : UInt8) ∉ l := by
        intro L
        induction L with
        | nil => intro h; cases h
        | cons b r ih =>
          intro hb
          by_cases e : b = 120
          · exact ⟨[], r, by rw [e]; rfl, by simp⟩
          · have : (120 : UInt8) ∈ r := by
              rcases List.mem_cons.1 hb with h | h
              · exact absurd h.symm e
              · exact h
            obtain ⟨l, m, h1, h2⟩ := ih this
            exact ⟨b :: l, m, by rw [h1]; rfl, by simp [h2]; exact fun h => e h.symm⟩
      exact key _ (h.2 ⟨h2, rfl⟩)
    obtain ⟨l, m, e, hn⟩ := this
    rw [e, idx_app m hn]
    simp

theorem results_ccc {fn : Func} {t u v : Tmp} (h : fn.results = #[.cell t 22, .cell u 4, .cell v 28]) (tmps : Array Value) (w : World) (b : Nat) (h1 : tmps.getD t undef = .pointer (some ⟨b, 0, none⟩)) (h2 : tmps.getD u undef = .pointer (some ⟨b + 1, 0, none⟩)) (h3 : tmps.getD v undef = .pointer (some ⟨b + 1 + 1, 0, none⟩))
    {x y z : Value} (k1 : w.cell? ⟨b, 0, none⟩ = some x) (k2 : w.cell? ⟨b + 1, 0, none⟩ = some y) (k3 : w.cell? ⟨b + 1 + 1, 0, none⟩ = some z) :
    (results fn tmps).run Tryd.prog w = .ok (.tuple #[x, y, z]) w := by
  have h1' : tmps[t]?.getD undef = .pointer (some ⟨b, 0, none⟩) := by simpa using h1
  have h2' : tmps[u]?.getD undef = .pointer (some ⟨b + 1, 0, none⟩) := by simpa using h2
  have h3' : tmps[v]?.getD undef = .pointer (some ⟨b + 1 + 1, 0, none⟩) := by simpa using h3
  simp [results, h, h1', h2', h3', asAddr, loadVar, k1, k2, k3, go_sem]

/-- What is held while words are read: g: the list's place. -/
structure RdI (g : Nat) (w : World) (O : Nat → Prop) (s : List Nat) (v : Value) (V : World) : Prop where
  o : ∀ j, O j ↔ (j = g ∨ v.ownBlock = some j)
  b : Vb V g 22 [v]
  r : V.ownsRow (g + 3) 3 1 v s.length ((toI s).map (Value.int .i64))
  bl : Below g w V

theorem RdI.keeps {g : Nat} {w : World} {O X : Nat → Prop} {s : List Nat} {v : Value} {V V' : World} (h : RdI g w O s v V) (hk : Keeps X V V') (hX : ∀ k, X k → g ≤ k ∧ ¬ O k) : RdI g w O s v V' :=
  ⟨h.o, h.b.keeps hk (fun e => (hX _ e).2 ((h.o g).2 (Or.inl rfl))), own_blk h.r (fun q hq => hk.block q (h.r.lt q hq).2 (fun e => (hX _ e).2 ((h.o q).2 (Or.inr hq)))), h.bl.trans (hk.below (Nat.le_of_lt h.b.lt) (fun j hj e => by have := (hX _ e).1; omega))⟩

attribute [local irreducible] txS sgB
attribute [local go_sem] Oper.semAt_some wide_fn wide_fn0 wide_depth

set_option maxRecDepth 100000 in
set_option maxHeartbeats 8000000 in
theorem Read_yes (j : Bool) (W : List Nat) (h2 : 2 ≤ W.length) (h13 : W.length ≤ 13) (hW : ∀ p ∈ W, 1 ≤ p ∧ p ≤ 32) (w : World) (hm : ∃ m, w.cell? ⟨2, 0, none⟩ = some (.int .i64 m)) :
    Calls Tryd.prog 24 #[.string ⟨(txS j W).toArray⟩] w fun e w' => ∃ a c, e = .returned (.tuple #[.slice a W.length c, .bool j, .int .i64 0]) ∧ Rd w' a W.length c (toI W) ∧ Below w.heap.size w w' := by
  have h100 : ∀ p ∈ W, p < 100 := fun p hp => by have := hW p hp; omega
  have hne : W ≠ [] := by intro e; rw [e] at h2; simp at h2
  have HCN := hide (fun w => contains_x j W h100 h2 w)
  have HSG : Hid (∀ W4, Calls Tryd.prog 52 #[.bool j] W4 fun e w' => e = .returned (.string ⟨#[sgB j]⟩) ∧ w' = W4) := hide (fun W4 => by
    have := signOf_any j W4
    rw [signOf_str] at this
    exact this)
  have HSQ := hide (fun tb sb => words1_o j tb sb W hne h100 h13)
  have HNU : Hid (∀ p ∈ W, ∀ w, Calls Tryd.prog 57 #[.string ⟨(Lib.decDigits p).toArray⟩] w fun e w' => e = .returned (.tuple #[.int .i64 (p : Nat), .bool true]) ∧ w' = w) := hide (fun p hp w => by
    have := hW p hp
    rw [wd_dec p this.1 this.2]
    exact numberOf_place p this.1 this.2 w)
  have HAP : Hid (∀ w a c, Rd w a W.length c (toI W) → Calls Tryd.prog 50 #[.slice a W.length c] w fun e w' => e = .returned (.bool true) ∧ w' = w) := hide (fun w a c h => allPlaces_yes a W.length c (toI W) w h (by omega) (fun k hk => by
    have h1 := hW (W[k]) (List.getElem_mem hk)
    have e : (toI W).getD k 0 = ((W[k] : Nat) : Int) := by simp [toI, List.getD, hk]
    rw [e]
    omega))
  obtain ⟨mm, hmm⟩ := hm
  obtain ⟨w3, hw3⟩ : ∃ w3, ((w.alloc (.cells #[.slice none 0 0] 22)).alloc (.cells #[.bool false] 4)).alloc (.cells #[.int .i64 0] 28) = w3 := ⟨_, rfl⟩
  have s3 : w3.heap.size = w.heap.size + 3 := by rw [← hw3]; simp
  have B3 : Below w.heap.size w w3 := by rw [← hw3]; exact (((Below.refl _ w).alloc (Nat.le_refl _) _).alloc (by simp) _).alloc (by simp; omega) _
  have V0 : Vb w3 w.heap.size 22 [.slice none 0 0] := by rw [← hw3]; exact ((Vb.new w 22 [.slice none 0 0]).old _).old _
  have V1 : Vb w3 (w.heap.size + 1) 4 [.bool false] := by
    rw [← hw3]
    have := Vb.new (w.alloc (.cells #[.slice none 0 0] 22)) 4 [.bool false]
    rw [World.size_alloc] at this
    exact this.old _
  have V2 : Vb w3 (w.heap.size + 2) 28 [.int .i64 0] := by
    rw [← hw3]
    have := Vb.new ((w.alloc (.cells #[.slice none 0 0] 22)).alloc (.cells #[.bool false] 4)) 28 [.int .i64 0]
    rw [World.size_alloc, World.size_alloc] at this
    exact this
  have hl2 := World.block_lt_of_cell? w _ hmm
  have m3 := (B3.cell (p := ⟨2, 0, none⟩) hl2).trans hmm
  obtain ⟨w4, hw4⟩ : ∃ w4, w3.alloc (.cells #[.slice none 0 0] 22) = w4 := ⟨_, rfl⟩
  have s4 : w4.heap.size = w3.heap.size + 1 := by rw [← hw4]; simp
  have B4 : Below w3.heap.size w3 w4 := by rw [← hw4]; exact (Below.refl _ w3).alloc (Nat.le_refl _) _
  have V4 : Vb w4 w3.heap.size 22 [.slice none 0 0] := by rw [← hw4]; exact Vb.new w3 22 _
  have HB3 := hide B3
  have HS3 := hide s3
  have HS4 := hide s4
  have HV0 := hide V0
  have HV1 := hide V1
  have HV2 := hide V2
  have HM3 := hide m3
  have HB4 := hide B4
  have HV4 := hide V4
  have HL2 := hide hl2
  have HN := hide h13
  have HN2 := hide h2
  have HWN := hide hne
  clear B3 s3 s4 V0 V1 V2 m3 B4 V4 hl2 hmm hne h100 hW h2 h13
  refine (callsIn_wide (n := 3)).1 ?_
  refine callsIn_of_wp_marks Tryd.func24 rfl trivial ?_ rfl
  simp only [Tryd.ntmps24, List.size_toArray, List.length_cons, List.length_nil, Nat.reduceAdd, Nat.reduceSub, Array.replicate_succ, Array.replicate_zero, List.push_toArray, List.append_toArray, List.nil_append, List.cons_append]
  refine wpIn_wide.2 ?_
  go_upto_region 1 with fail
  clear hw3
  go_wp2_with fail
  refine (HCN.out _).mono ?_
  rintro e w0 ⟨rfl, hw0⟩
  subst w0
  go_upto_region 3 with fail
  clear hw4
  go_wp2_with fail
  refine (HSG.out _).mono ?_
  rintro e w0 ⟨rfl, hw0⟩
  subst w0
  go_wp2_with fail
  refine (words_any _ _ _).mono ?_
  rintro e w5 ⟨rfl, hw5⟩
  have B45 : Below w4.heap.size w4 w5 := by rw [hw5]; exact ((Below.refl _ w4).alloc (Nat.le_refl _) _).alloc (by simp) _
  have s5 : w5.heap.size = w4.heap.size + 2 := by rw [hw5]; simp
  have T5 : w5.cell? ⟨w4.heap.size, 0, none⟩ = some (.string ⟨(txS j W).toArray⟩) := by rw [hw5]; exact old_cell _ (new_cell w4 _ 9)
  have S5 : w5.cell? ⟨w4.heap.size + 1, 0, none⟩ = some (.string ⟨#[sgB j]⟩) := by
    rw [hw5]
    have := new_cell (w4.alloc (.cells #[.string ⟨(txS j W).toArray⟩] 9)) (.string ⟨#[sgB j]⟩) 9
    rw [World.size_alloc] at this
    exact this
  obtain ⟨g, hg⟩ : ∃ g, w3.heap.size = g := ⟨_, rfl⟩
  have B35 : Below w3.heap.size w3 w5 := HB4.out.trans (B45.mono HB4.out.size)
  have HW : Hid (w4.heap.size = g + 1 ∧ w5.heap.size = g + 3 ∧ g = w.heap.size + 3 ∧ 2 < w.heap.size) := hide ⟨by rw [HS4.out, hg], by rw [s5, HS4.out, hg], by rw [← hg, HS3.out], HL2.out⟩
  have HR5 : Hid (WdR (g + 1) (g + 1 + 1) j W w5) := hide ⟨by rw [← HW.out.1]; exact T5, by rw [← HW.out.1]; exact S5, mm, (B35.cell (p := ⟨2, 0, none⟩) (by have := HW.out; have := HS3.out; show 2 < _; omega)).trans HM3.out⟩
  have HI5 : Hid (RdI g w3 (fun k => k = g) [] (.slice none 0 0) w5) := hide ⟨fun k => by simp [Value.ownBlock], by rw [← hg]; exact HV4.out.mono B45, World.ownsRow_nil _ _ _ _, by rw [← hg]; exact B35⟩
  rw [HW.out.1, hg]
  clear hw5 B45 s5 T5 S5 B35 HB4 HV4 HS4 HL2
  go_wp2_with fail
  refine (wpIn_wide (n := 1)).1 (wp_range_o (gf := 77) (lb := #[.pointer (some ⟨g + 1, 0, none⟩), .pointer (some ⟨g + 1 + 1, 0, none⟩)]) (G := WdG) (xs := W) (R := WdR (g + 1) (g + 1 + 1) j W) (T := fun k => k = g + 1 ∨ k = g + 1 + 1 ∨ k = 2) (by simp [Act.eval]) (enters_of Tryd.func77 (by kernel_rfl) rfl)
    (HSQ.out _ _) (fun k hk => by have := HW.out; omega) (fun A hA => ⟨(hA.cell (p := ⟨g + 1, 0, none⟩) (by have := HW.out; show g + 1 < _; omega)).trans HR5.out.1, (hA.cell (p := ⟨g + 1 + 1, 0, none⟩) (by have := HW.out; show g + 1 + 1 < _; omega)).trans HR5.out.2.1, mm, by
      have h1 := HR5.out.2.2
      obtain ⟨m2, hm2⟩ := h1
      have h3 := HW.out
      have h2 := (hA.cell (p := ⟨2, 0, none⟩) (by show 2 < _; omega))
      rw [h2]
      exact (HI5.out.bl.cell (p := ⟨2, 0, none⟩) (by show 2 < g; omega)).trans HM3.out⟩) (fun y args W' hG => by unfold WdG at hG; rw [hG]; rfl)
    (fun O s W' => ∃ v, RdI g w3 O s v W') (fun _ _ _ => False) (fun k => k = g) ?hC ⟨_, HI5.out⟩ ?round ?done (fun _ _ _ _ _ h => h.elim))
  case hC =>
    intro d
    have z1 := HW.out
    refine ⟨?_, (fun _ _ h => h.elim), ?_, (fun _ _ _ h => h.elim)⟩
    · rintro O s A ⟨v, h⟩ k hk
      rcases (h.o k).1 hk with rfl | e
      · exact ⟨h.b.lt, fun e => by omega⟩
      · have := h.r.lt k e
        exact ⟨this.2, fun e => by omega⟩
    · rintro O s A B ⟨v, h⟩ hk
      exact ⟨v, h.keeps hk (fun k e => ⟨by have := e.1; omega, e.2⟩)⟩
  case round =>
    rintro l2 O s x args W6 hl2 ⟨rec, hrec⟩ ⟨v, hI6⟩ hOl _ _ hpre hGx hsz6
    obtain rfl : args = #[.string ⟨(Lib.decDigits x).toArray⟩] := hGx
    have hxW := hpre.subset (show x ∈ s ++ [x] by simp)
    have HNX := hide (HNU.out x hxW)
    have hpl : s.length ≤ 64 := by
      have h1 := hpre.length_le
      rw [List.length_append, List.length_singleton] at h1
      have h2 := HN.out
      omega
    have HSN : Hid (toI s ++ [(x : Int)] = toI (s ++ [x])) := hide (by rw [toI_snoc])
    have HPL : Hid (s.length + 1 = (s ++ [x]).length) := hide (by simp)
    have HI6 := hide hI6
    have HOL := hide hOl
    have HSZ6 := hide hsz6
    have HL2 := hide hl2
    clear hI6 hpre hrec hOl hsz6 hl2 hxW
    obtain ⟨xb, hxb⟩ : ∃ xb : ByteArray, (⟨(Lib.decDigits x).toArray⟩ : ByteArray) = xb := ⟨_, rfl⟩
    rw [hxb] at HNX ⊢
    clear hxb
    gi_wp2
    refine ⟨Below.refl _ _, ?_⟩
    intro W3 hk3
    have I3 : RdI g w3 O s v W3 := HI6.out.keeps hk3 (fun k e => ⟨by have := HW.out; have := HL2.out; omega, e ▸ HOL.out⟩)
    have HW3 : Hid (g + 3 ≤ W3.heap.size) := hide (by have := hk3.size; have := HSZ6.out; have := HW.out; omega)
    obtain ⟨a3, c3, rfl⟩ := slice_form I3.r
    have HI3 := hide I3
    have cs := I3.b.cell (i := 0) rfl
    have hrow := I3.r.alloc (.cells #[.int .i64 (x : Nat)] 3)
    have hRx : Rd (W3.alloc (.cells #[.int .i64 (x : Nat)] 3)) (some ⟨W3.heap.size, 0, none⟩) 1 1 [(x : Int)] := Rd.of_blk (Blk.new W3 3 [(x : Int)] _ rfl) rfl (by unfold maxLen; omega)
    have csa := old_cell (.cells #[.int .i64 (x : Nat)] 3) cs
    obtain ⟨n, hn⟩ : ∃ n, s.length = n := ⟨_, rfl⟩
    have HNL := hide hn
    rw [hn] at hpl HPL hrow cs csa
    clear hk3 HI6 I3 hn
    gi_wp2
    refine (CallsIn.inRound l2 (callsIn_wide.2 (HNX.out W3))).mono ?_
    rintro r W4 ⟨rfl, hW4⟩
    subst W4
    gi_wp2_with (gi_at_builtin; refine wpListIn_append_i _ rfl _ _ rfl (g + 3) _ n (toI s) rfl hrow ⟨W3.heap.size, 0, none⟩ 1 1 [(x : Int)] rfl hRx (by omega) (by omega) (by simp; have := HW3.out; omega) ?_)
    intro v' w7 hO4 hg4 hst
    obtain ⟨a4, c4, rfl⟩ := slice_form hO4
    have hob : ∀ k, (Value.slice a3 n c3).ownBlock = some k → O k := fun k hk => (HI3.out.o k).2 (Or.inr (by rw [HNL.out]; exact hk))
    have hobl : ∀ k, (Value.slice a3 n c3).ownBlock = some k → g + 3 ≤ k := fun k hk => (HI3.out.r.lt k (by rw [HNL.out]; exact hk)).1
    have K34 : Keeps O W3 w7 := by
      refine ((Keeps.refl _ W3).alloc (.cells #[.int .i64 (x : Nat)] 3)).trans ?_
      refine ⟨hg4.os, hg4.tape, hg4.output, hg4.size, fun i hi hx => hg4.block i hi (fun e => hx (hob i e.symm))⟩
    have V4 : Vb w7 g 22 [.slice a3 n c3] := by
      have hb := HI3.out.b.lt
      have e1 := hg4.block g (by simp; exact Nat.lt_succ_of_lt hb) (fun e => by have := hobl _ e.symm; omega)
      have e2 := e1.trans (Below.heap_alloc W3 _ _ hb)
      have := HI3.out.b
      rw [HNL.out] at this
      exact e2.trans this
    have cs4 := V4.cell (i := 0) rfl
    have fs4 := V4.frozen 0
    have HB4 : Hid (Below g w3 w7) := hide (HI3.out.bl.trans (K34.below (Nat.le_of_lt HI3.out.b.lt) (fun k hk e => by
      rcases (HI3.out.o k).1 e with e | e
      · omega
      · have := hobl k (by rw [HNL.out] at e; exact e); omega)))
    have kk := Keeps.set1 w7 g 0 (.slice a4 (n + 1) c4)
    have HO5 : Hid ((w7.setCell ⟨g, 0, none⟩ (.slice a4 (n + 1) c4)).ownsRow (g + 3) 3 1 (.slice a4 (n + 1) c4) (n + 1) (List.map (Value.int IntKind.i64) (toI s) ++ [Value.int IntKind.i64 x])) := hide (own_blk hO4 (fun q hq => kk.block q (hO4.lt q hq).2 (fun e => by have := (hO4.lt q hq).1; omega)))
    have HV5 : Hid (Vb (w7.setCell ⟨g, 0, none⟩ (.slice a4 (n + 1) c4)) g 22 [.slice a4 (n + 1) c4]) := hide (V4.set 0 _)
    have HK5 : Hid (Keeps O W3 (w7.setCell ⟨g, 0, none⟩ (.slice a4 (n + 1) c4))) := hide (K34.trans (kk.mono (fun k _ e => (HI3.out.o k).2 (Or.inl e))))
    have HB5 : Hid (Below g w3 (w7.setCell ⟨g, 0, none⟩ (.slice a4 (n + 1) c4))) := hide (HB4.out.trans (kk.below (Nat.le_of_lt V4.lt) (fun k hk e => by omega)))
    have HNW : Hid (∀ k, k < W3.heap.size → (k = g ∨ (Value.slice a4 (n + 1) c4).ownBlock = some k) → O k) := hide (fun k hk h => by
      rcases h with h | h
      · exact (HI3.out.o k).2 (Or.inl h)
      · rcases hst k h with e | e
        · exact hob k e
        · omega)
    clear hO4 hg4 hst K34 V4 kk hrow hRx csa cs hob hobl
    gi_wp2_with fail
    refine ⟨HK5.out, fun k => k = g ∨ (Value.slice a4 (n + 1) c4).ownBlock = some k, HNW.out, .slice a4 (n + 1) c4, fun _ => Iff.rfl, HV5.out, ?_, HB5.out⟩
    rw [← HPL.out, ← HSN.out, List.map_append]
    exact HO5.out
  case done =>
    rintro D O W5 hD ⟨v, hI⟩ hkA hm hK
    obtain ⟨a5, c5, rfl⟩ := slice_form hI.r
    have cs := hI.b.cell (i := 0) rfl
    have hR5 : Rd W5 a5 W.length c5 (toI W) := Rd.of_own hI.r
    have B5 := hI.bl
    have z := HW.out
    have h3s := HS3.out
    have v0 : Vb W5 w.heap.size 22 [.slice none 0 0] := HV0.out.below B5 (by omega)
    have v1 : Vb W5 (w.heap.size + 1) 4 [.bool false] := HV1.out.below B5 (by omega)
    have v2 : Vb W5 (w.heap.size + 2) 28 [.int .i64 0] := HV2.out.below B5 (by omega)
    have HI := hide hI
    have HR := hide hR5
    have HAQ := hide (HAP.out W5 a5 c5 hR5)
    have hn2 : ¬ (W.length : Int) < 2 := by have := HN2.out; omega
    have HKD := hide hK
    have HDD : Hid (D = w5.heap.size) := hide hD
    have HMM := hide hm
    clear hI hkA hm hK hR5 B5 hD z h3s
    go_wp2_with fail
    refine HAQ.out.mono ?_
    rintro e w9 ⟨rfl, hw9⟩
    subst w9
    have c0 := v0.cell (i := 0) rfl
    have f0 := v0.frozen 0
    have c1 := v1.cell (i := 0) rfl
    have f1 := v1.frozen 0
    have c2 := v2.cell (i := 0) rfl
    have f2 := v2.frozen 0
    go_wp2_with fail
    obtain ⟨W9, hW9⟩ : ∃ W9, (((W5.setCell ⟨w.heap.size, 0, none⟩ (.slice a5 W.length c5)).setCell ⟨w.heap.size + 1, 0, none⟩ (.bool j)).setCell ⟨w.heap.size + 1 + 1, 0, none⟩ (.int .i64 0)) = W9 := ⟨_, rfl⟩
    have K9 : Keeps (fun k => k = w.heap.size ∨ k = w.heap.size + 1 ∨ k = w.heap.size + 1 + 1) W5 W9 := by
      rw [← hW9]
      exact (((Keeps.set1 W5 w.heap.size 0 _).mono (fun k _ e => Or.inl e)).trans ((Keeps.set1 _ (w.heap.size + 1) 0 _).mono (fun k _ e => Or.inr (Or.inl e)))).trans ((Keeps.set1 _ (w.heap.size + 1 + 1) 0 _).mono (fun k _ e => Or.inr (Or.inr e)))
    have q0 : W9.cell? ⟨w.heap.size, 0, none⟩ = some (.slice a5 W.length c5) := by
      rw [← hW9]
      exact (((v0.set 0 (.slice a5 W.length c5)).keeps (Keeps.set1 _ (w.heap.size + 1) 0 _) (by omega)).keeps (Keeps.set1 _ (w.heap.size + 1 + 1) 0 _) (by omega)).cell (i := 0) rfl
    have q1 : W9.cell? ⟨w.heap.size + 1, 0, none⟩ = some (.bool j) := by
      rw [← hW9]
      exact (((v1.keeps (Keeps.set1 _ w.heap.size 0 (.slice a5 W.length c5)) (by omega)).set 0 (.bool j)).keeps (Keeps.set1 _ (w.heap.size + 1 + 1) 0 _) (by omega)).cell (i := 0) rfl
    have q2 : W9.cell? ⟨w.heap.size + 1 + 1, 0, none⟩ = some (.int .i64 0) := by
      rw [← hW9]
      exact (((v2.keeps (Keeps.set1 _ w.heap.size 0 (.slice a5 W.length c5)) (by omega)).keeps (Keeps.set1 _ (w.heap.size + 1) 0 (.bool j)) (by omega)).set 0 (.int .i64 0)).cell (i := 0) rfl
    rw [hW9]
    have z := HW.out
    have hD := HDD.out
    have hK9 : W9.heap[D]? = some (.deferred (some [])) := (K9.block D (Array.getElem?_eq_some_iff.1 HKD.out).1 (fun e => by omega)).trans HKD.out
    have KP : Keeps (fun k => k = D) W9 (W9.putObj D (.deferred none)) := Keeps.put (X := fun k => k = D) (Keeps.refl _ W9) rfl _
    have hnD : ¬ O D := fun h => by have := HMM.out D (by omega) h; omega
    refine ⟨by simp, .inl ⟨_, _, rfl, run_takeDeferred hK9, ?_⟩⟩
    refine ⟨_, results_ccc rfl _ _ w.heap.size rfl rfl rfl (KP.cell q0 (fun e => by dsimp only at e; omega)) (KP.cell q1 (fun e => by dsimp only at e; omega)) (KP.cell q2 (fun e => by dsimp only at e; omega)), a5, c5, rfl, ?_, ?_⟩
    · refine Rd.of_own (own_blk (own_blk HI.out.r (fun q hq => K9.block q (HI.out.r.lt q hq).2 (fun e => by have := (HI.out.r.lt q hq).1; omega))) (fun q hq => KP.block q (Nat.lt_of_lt_of_le (HI.out.r.lt q hq).2 K9.size) (fun e => hnD (e ▸ (HI.out.o q).2 (Or.inr hq)))))
    · have b1 : Below w.heap.size w W5 := HB3.out.trans (HI.out.bl.mono (by omega))
      have b2 := b1.trans (K9.below b1.size (fun k hk e => by omega))
      exact b2.trans (KP.below b2.size (fun k hk e => by omega))

end Go.Proofs.YtnbaangnpoblfaaDoor
