/-
  What crib.Keep answers. No conditions beyond those that each theorem bears.
-/
import Derived.Test.YtneafmjbekafmaaSumAll
import Derived.Test.YtneafmjbekafmaaOwn
namespace Go.Proofs.Ytneafmjbekafmaa
open Go.RowKit Go.Shelf

def pick (H s : List Nat) : List Nat := s.map (fun i => H.getD i 0)

/-- The sum of a four over all other cards. -/
def sumF (H S s : List Nat) : Nat := sumSc (pick H s) S S.length

/-- The best four so far, and its sum. -/
def keepS (H S : List Nat) (st : Int × List Nat) (s : List Nat) : Int × List Nat := if st.1 < (sumF H S s : Int) then ((sumF H S s : Int), pick H s) else st
def keepF (H S : List Nat) (pre : List (List Nat)) : Int × List Nat := pre.foldl (keepS H S) (-1, [])

theorem keepF_snoc (H S : List Nat) (pre : List (List Nat)) (s : List Nat) : keepF H S (pre ++ [s]) = keepS H S (keepF H S pre) s := by
  simp [keepF, List.foldl_append]

/-- What a round keeps in memory: the best four lies apart from the boxes. -/
structure KeepI (H S : List Nat) (w3 : World) (N P : Nat) (a a2 : Option Addr) (c c2 : Nat) (pre : List (List Nat)) (W : World) : Prop where
  most : Boxed W (P + 2) 3 (.int .i64 (keepF H S pre).1)
  kept : ∃ a' c', Boxed W (P + 1) 22 (.slice a' (keepF H S pre).2.length c') ∧ Rd W a' (keepF H S pre).2.length c' (toI (keepF H S pre).2) ∧ ∀ b off, a' = some ⟨b, off, none⟩ → P + 8 ≤ b
  rest : W.cell? ⟨P, 0, none⟩ = some (.slice a2 S.length c2)
  hand : W.cell? ⟨N, 0, none⟩ = some (.slice a 6 c)
  below : Below P w3 W

theorem boxed_far {W : World} {B : Nat} {t : TypeId} {v : Value} (h : Boxed W B t v) {p : Addr} (hne : B ≠ p.block) (u : Value) : Boxed (W.setCell p u) B t v :=
  (Below.heap_setCell W p u B hne).trans h

theorem boxed_below {A B : World} {k N : Nat} {t : TypeId} {v : Value} (h : Boxed A k t v) (hb : Below N A B) (hk : k < N) : Boxed B k t v := (hb.block k hk).trans h

theorem keeps_all {X : Nat → Prop} {A B : World} {k : Nat} {t : TypeId} {v : Value} (h : Boxed A k t v) (hk : Keeps X A B) (hx : ¬ X k) : Boxed B k t v := (hk.block k h.lt hx).trans h

theorem oth_four {H : List Nat} (hn : H.Nodup) (hlt : ∀ x ∈ H, x < 52) (q0 q1 q2 q3 : Nat) (h0 : q0 < H.length) (h1 : q1 < H.length) (h2 : q2 < H.length) (h3 : q3 < H.length) (hd : [q0, q1, q2, q3].Nodup) :
    Four (pick H [q0, q1, q2, q3]) (othK (toI H) 52) := by
  have hp : (pick H [q0, q1, q2, q3]).Nodup := by
    simp only [List.nodup_cons, List.mem_cons, List.not_mem_nil, or_false, not_or] at hd
    obtain ⟨⟨n01, n02, n03⟩, ⟨n12, n13⟩, n23, _⟩ := hd
    have g : ∀ i j, i < H.length → j < H.length → ¬ i = j → ¬ H.getD i 0 = H.getD j 0 := by
      intro i j hi hj hne e
      have e1 : H.getD i 0 = H[i] := by simp [List.getD, hi]
      have e2 : H.getD j 0 = H[j] := by simp [List.getD, hj]
      rw [e1, e2] at e
      have hpw := List.pairwise_iff_getElem.1 hn
      rcases Nat.lt_trichotomy i j with c | c | c
      · exact hpw i j hi hj c e
      · exact hne c
      · exact hpw j i hj hi c e.symm
    simp only [pick, List.map_cons, List.map_nil, List.nodup_cons, List.mem_cons, List.not_mem_nil, or_false, not_or]
    exact ⟨⟨g _ _ h0 h1 n01, g _ _ h0 h2 n02, g _ _ h0 h3 n03⟩, ⟨g _ _ h1 h2 n12, g _ _ h1 h3 n13⟩, g _ _ h2 h3 n23, by simp⟩
  have hmem : ∀ x ∈ pick H [q0, q1, q2, q3], x ∈ H := by
    intro x hx
    simp only [pick, List.map_cons, List.map_nil, List.mem_cons, List.not_mem_nil, or_false] at hx
    rcases hx with rfl | rfl | rfl | rfl
    · exact mem_getD H _ h0
    · exact mem_getD H _ h1
    · exact mem_getD H _ h2
    · exact mem_getD H _ h3
  refine ⟨by simp [pick], fun x hx => hlt x (hmem x hx), fun s hs => ?_⟩
  simp only [othK, List.mem_filter, List.mem_range] at hs
  refine ⟨hs.1, ?_⟩
  rw [List.nodup_append]
  refine ⟨hp, by simp, fun x hx y hy e => ?_⟩
  simp only [List.mem_singleton] at hy
  subst hy
  subst e
  have h2 := hs.2
  have h3 : (x : Int) ∈ toI H := List.mem_map.2 ⟨x, hmem x hx, rfl⟩
  simp [h3] at h2

theorem make4 (W : World) : Sem.run Try.prog (Instr.makeSlice 22 (.int .i64 4) (.int .i64 4)) W = .ok (.slice (some ⟨W.heap.size, 0, none⟩) 4 4) (W.alloc (.cells #[.int .i64 0, .int .i64 0, .int .i64 0, .int .i64 0] 3)) := by
  obtain ⟨i0, hi, hz0, hz1, hz2⟩ := info_parts Try.info3
  have h := run_make (P := Try.prog) W 22 3 i0 (.int .i64 0) Try.underlying22 hi hz0 .i64 .i64 4 4 (by omega) (by omega) (by rw [hz2]; omega) (by omega)
  rw [hz1] at h
  have e : madeCells (Value.int .i64 0).cells ((4 : Int).toNat * 1) = #[.int .i64 0, .int .i64 0, .int .i64 0, .int .i64 0] := by
    apply Array.ext'
    rw [show (Value.int .i64 0).cells = #[.int .i64 0] from rfl, toList_madeCells_one]
    rfl
  rw [e] at h
  exact h

theorem Rd.keepsC {X : Nat → Prop} {w w' : World} {a n c zs} (h : Rd w a n c zs) (hb : Keeps X w w') (hX : ∀ b off v, a = some ⟨b, off, none⟩ → w.cell? ⟨b, off, none⟩ = some v → ¬ X b) : Rd w' a n c zs := by
  refine ⟨h.len, h.cap, h.max, h.nil, fun hn => ?_⟩
  obtain ⟨b, off, rfl, hc⟩ := h.cells hn
  have h0 := hc 0 hn
  rw [Nat.add_zero] at h0
  exact ⟨b, off, rfl, fun i hi => hb.cell (hc i hi) (hX b off _ rfl h0)⟩

theorem Rd.of_blkC {w : World} {b t n : Nat} {T : List Nat} (h : Blk w b t T) (hl : T.length = n) (hn : n ≤ 1000) : Rd w (some ⟨b, 0, none⟩) n n (toI T) := by
  refine ⟨by rw [toI_length, hl], Nat.le_refl _, by unfold maxLen; omega, (fun h => by simp at h), fun _ => ⟨b, 0, rfl, fun i hi => ?_⟩⟩
  rw [Nat.zero_add, toI_getD]
  exact h.cell (by omega)

theorem results3 {fn : Func} {t u v : Tmp} (h : fn.results = #[.tmp t, .tmp u, .tmp v]) (tmps : Array Value) (w : World) :
    (results fn tmps).run Try.prog w = .ok (.tuple #[tmps.getD t undef, tmps.getD u undef, tmps.getD v undef]) w := by
  simp [results, h]

attribute [local go_sem] Oper.semAt_some wide_fn wide_fn0 wide_depth make4

set_option maxRecDepth 100000 in
set_option maxHeartbeats 4000000 in
theorem Keep_yes (a : Option Addr) (c : Nat) (H : List Nat) (hnd : H.Nodup) (hlt : ∀ x ∈ H, x < 52) (hl : H.length = 6) (w : World) (h : Rd w a 6 c (toI H)) :
    Calls Try.prog 12 #[.slice a 6 c] w fun e w' => ∃ a' c', e = .returned (.tuple #[.slice a' (keepF H (othK (toI H) 52) (comb 4 (List.range 6))).2.length c', .int .i64 (keepF H (othK (toI H) 52) (comb 4 (List.range 6))).1, .int .i64 0]) ∧ Rd w' a' (keepF H (othK (toI H) 52) (comb 4 (List.range 6))).2.length c' (toI (keepF H (othK (toI H) 52) (comb 4 (List.range 6))).2) ∧ Below w.heap.size w w' := by
  obtain ⟨rest, hcomb, hrun⟩ := sets_run 6 4 (by omega)
  have hok := sets_ok 6 4 (by omega)
  have hdis : ∀ x ∈ comb 4 (List.range 6), x.Nodup := by decide +kernel
  rw [hcomb] at hok hdis ⊢
  have HH := hide h
  have hcap := h.cap
  have hmax := h.max
  unfold maxLen at hmax
  have hab : ∀ b off, a = some ⟨b, off, none⟩ → b < w.heap.size := by
    intro b off e
    obtain ⟨b', off', e', hc⟩ := h.cells (by omega)
    rw [e'] at e
    cases e
    exact World.block_lt_of_cell? w _ (hc 0 (by omega))
  have CA : Hid (∀ w1, Rd w1 a 6 c (toI H) → Calls Try.prog 20 #[.slice a 6 c] w1 fun e w' => e = .returned (.int .i64 0) ∧ Below w1.heap.size w1 w') := hide (fun w1 h1 => by have := cards_any a 6 c (toI H) w1 h1 (by omega); rwa [mayE_cards hnd hlt] at this)
  have hS52 : (othK (toI H) 52).length ≤ 52 := othK_len _ _
  have FO := hide (fun q0 q1 q2 q3 (h0 : q0 < 6) (h1 : q1 < 6) (h2 : q2 < 6) (h3 : q3 < 6) hd => oth_four hnd hlt q0 q1 q2 q3 (by omega) (by omega) (by omega) (by omega) hd)
  have OT := hide (fun w1 h1 => others_any a 6 c (toI H) w1 h1)
  generalize hSS : othK (toI H) 52 = S at *
  clear h hSS hnd hlt
  refine (callsIn_wide (n := 0)).1 ?_
  refine callsIn_of_wp_marks Try.func12 rfl trivial ?_ rfl
  simp only [Try.ntmps12, List.size_toArray, List.length_cons, List.length_nil, Nat.reduceAdd, Nat.reduceSub, Array.replicate_succ, Array.replicate_zero, List.push_toArray, List.append_toArray, List.nil_append, List.cons_append]
  refine wpIn_wide.2 ?_
  go_wp2_with fail
  generalize hw1 : w.alloc (Obj.cells #[.slice a 6 c] 22) = w1
  have B1 : Below w.heap.size w w1 := by rw [← hw1]; exact (Below.refl _ w).alloc (Nat.le_refl _) _
  have C1 : w1.cell? ⟨w.heap.size, 0, none⟩ = some (.slice a 6 c) := by rw [← hw1]; exact new_cell _ _ _
  clear hw1
  refine (CA.out w1 (HH.out.mono B1)).mono ?_
  rintro e w2 ⟨rfl, hB2⟩
  have C2 : w2.cell? ⟨w.heap.size, 0, none⟩ = some (.slice a 6 c) := (hB2.cell (p := ⟨w.heap.size, 0, none⟩) (World.block_lt_of_cell? _ _ C1)).trans C1
  have HB2 := hide (B1.trans (hB2.mono B1.size))
  clear C1 B1 hB2 CA
  go_wp2_with fail
  refine (OT.out w2 (HH.out.mono HB2.out)).mono ?_
  rintro e w3 ⟨a3, c3, rfl, hR3, _, hB3⟩
  have C3 : w3.cell? ⟨w.heap.size, 0, none⟩ = some (.slice a 6 c) := (hB3.cell (p := ⟨w.heap.size, 0, none⟩) (World.block_lt_of_cell? _ _ C2)).trans C2
  have HB3 := hide (HB2.out.trans (hB3.mono HB2.out.size))
  have HR3 := hide hR3
  have HC3 := hide C3
  clear C2 C3 hB3 HB2 hR3 OT
  go_wp2_with fail
  refine (sets_any 6 4 _).mono ?_
  rintro e w4 ⟨rfl, hw4⟩
  subst hw4
  go_wp2_with fail
  obtain ⟨P, hP⟩ : ∃ P, w3.heap.size = P := ⟨_, rfl⟩
  have hNP : w.heap.size < P := by rw [← hP]; exact World.block_lt_of_cell? w3 _ HC3.out
  obtain ⟨w0, hw0⟩ : ∃ w0, ((((w3.alloc (Obj.cells #[Value.slice a3 S.length c3] 22)).alloc (Obj.cells #[Value.slice none 0 0] 22)).alloc (Obj.cells #[Value.int IntKind.i64 (-1)] 3)).alloc (Obj.cells #[Value.int IntKind.i64 6] 3)).alloc (Obj.cells #[Value.int IntKind.i64 4] 3) = w0 := ⟨_, rfl⟩
  have hsz : w0.heap.size = P + 5 := by rw [← hw0]; simp; omega
  have hB0 : Below P w3 w0 := by rw [← hw0, ← hP]; exact ((((((Below.refl _ w3).alloc (Nat.le_refl _) _).alloc (by simp) _).alloc (by simp; omega) _).alloc (by simp; omega) _).alloc (by simp; omega) _)
  have hrest0 : Boxed w0 P 22 (.slice a3 S.length c3) := by rw [← hw0, ← hP]; exact ((((Boxed.new w3 22 _).alloc _).alloc _).alloc _).alloc _
  have hkept0 : Boxed w0 (P + 1) 22 (.slice none 0 0) := by
    rw [← hw0, ← hP]
    have := (((Boxed.new (w3.alloc (Obj.cells #[Value.slice a3 S.length c3] 22)) 22 (.slice none 0 0)).alloc (Obj.cells #[Value.int IntKind.i64 (-1)] 3)).alloc (Obj.cells #[Value.int IntKind.i64 6] 3)).alloc (Obj.cells #[Value.int IntKind.i64 4] 3)
    rw [World.size_alloc] at this
    exact this
  have hmost0 : Boxed w0 (P + 2) 3 (.int .i64 (-1)) := by
    rw [← hw0, ← hP]
    have := ((Boxed.new ((w3.alloc (Obj.cells #[Value.slice a3 S.length c3] 22)).alloc (Obj.cells #[Value.slice none 0 0] 22)) 3 (.int .i64 (-1))).alloc (Obj.cells #[Value.int IntKind.i64 6] 3)).alloc (Obj.cells #[Value.int IntKind.i64 4] 3)
    rw [World.size_alloc, World.size_alloc] at this
    exact this
  have hn0 : w0.cell? ⟨P + 3, 0, none⟩ = some (.int .i64 ((6 : Nat) : Int)) := by
    rw [← hw0, ← hP]
    have := (old_cell (Obj.cells #[Value.int IntKind.i64 4] 3) (new_cell (((w3.alloc (Obj.cells #[Value.slice a3 S.length c3] 22)).alloc (Obj.cells #[Value.slice none 0 0] 22)).alloc (Obj.cells #[Value.int IntKind.i64 (-1)] 3)) (.int .i64 6) 3))
    rw [World.size_alloc, World.size_alloc, World.size_alloc] at this
    exact this
  have hk0 : w0.cell? ⟨P + 4, 0, none⟩ = some (.int .i64 ((4 : Nat) : Int)) := by
    rw [← hw0, ← hP]
    have := (new_cell ((((w3.alloc (Obj.cells #[Value.slice a3 S.length c3] 22)).alloc (Obj.cells #[Value.slice none 0 0] 22)).alloc (Obj.cells #[Value.int IntKind.i64 (-1)] 3)).alloc (Obj.cells #[Value.int IntKind.i64 6] 3)) (.int .i64 4) 3)
    rw [World.size_alloc, World.size_alloc, World.size_alloc, World.size_alloc] at this
    exact this
  rw [hw0, hP]
  have HP := hide hP
  clear hP
  have hI0 : KeepI H S w3 w.heap.size P a a3 c c3 [] w0 := ⟨hmost0, ⟨none, 0, hkept0, Rd.of_nil _, fun b off e => by cases e⟩, hrest0.cell, (hB0.cell (p := ⟨w.heap.size, 0, none⟩) hNP).trans HC3.out, hB0⟩
  clear hrest0 hkept0 hmost0 hw0
  refine (wpIn_wide (n := 1)).1 (wp_range_own (gf := 49) (lb := #[.pointer (some ⟨P + 4, 0, none⟩), .pointer (some ⟨P + 3, 0, none⟩)]) (G := GSet 4) (R := RSet (P + 4) (P + 3) 6 4) (xs := List.range 4 :: rest) (by simp [Act.eval]) (enters_of Try.func49 (by kernel_rfl) rfl)
    (sets1_own (P + 4) (P + 3) 6 4 (by omega) (by omega) rest hrun (fun x hx => ⟨(hok x hx).1, fun i => by have := (hok x hx).2 i; omega⟩)) (fun k => k = P + 1 ∨ k = P + 2) (fun k hk => by rcases hk with rfl | rfl <;> omega) ⟨hk0, hn0⟩ ?_ ?_
    (fun pre W' => KeepI H S w3 w.heap.size P a a3 c c3 pre W') ?_ hI0 ?_ ?_)
  · intro l' A B hl' hA hk
    refine ⟨hk.cell hA.1 ?_, hk.cell hA.2 ?_⟩
    · rintro (hx | hx)
      · simp at hx
      · simp at hx; omega
    · rintro (hx | hx)
      · simp at hx
      · simp at hx; omega
  · rintro x args W' ⟨ad, rfl, _⟩; rfl
  · rintro s A B hI hb
    rw [hsz] at hb
    obtain ⟨h1, ⟨a', c', h2, h3, h4⟩, h5, h6, h7⟩ := hI
    refine ⟨keeps_all h1 hb (by omega), ⟨a', c', keeps_all h2 hb (by omega), h3.keeps hb (fun b off e hx => by have := h4 b off e; omega), h4⟩, hb.cell h5 (by show ¬ (P + 5 ≤ P ∧ _); omega), hb.cell h6 (by show ¬ (P + 5 ≤ w.heap.size ∧ _); omega), h7.trans (hb.below (by have := h7.size; have := HP.out; omega) (fun k hk hx => by omega))⟩
  · rintro l2 pre s args W2 hl2 ⟨rec, hrec⟩ hI hpre ⟨ad, rfl, hrd⟩ hown
    rw [hsz] at hl2 hown
    have hmem : s ∈ List.range 4 :: rest := hpre.subset (by simp)
    obtain ⟨hs4, hsb⟩ := hok s hmem
    have hsd := hdis s hmem
    obtain ⟨x0, x1, x2, x3, rfl⟩ : ∃ x0 x1 x2 x3, s = [x0, x1, x2, x3] := by
      match s, hs4 with
      | [x0, x1, x2, x3], _ => exact ⟨x0, x1, x2, x3, rfl⟩
    have b0 := hsb 0
    have b1 := hsb 1
    have b2 := hsb 2
    have b3 := hsb 3
    simp only [List.getD, List.getElem?_cons_zero, List.getElem?_cons_succ, Option.getD_some] at b0 b1 b2 b3
    have hF := FO.out x0 x1 x2 x3 b0 b1 b2 b3 hsd
    obtain ⟨i1, ⟨a', c', i2, i3, i4⟩, i5, i6, i7⟩ := hI
    have hRH : Rd W2 a 6 c (toI H) := HH.out.mono (HB3.out.trans (i7.mono (by omega)))
    have hRS : Rd W2 a3 S.length c3 (toI S) := HR3.out.mono (by have := i7; rwa [← HP.out] at this)
    obtain ⟨bs, os, rfl, hcs⟩ := hrd.cells (by omega)
    obtain ⟨ba, oa, ea, hca⟩ := hRH.cells (by omega)
    subst ea
    have hba := hab ba oa rfl
    gi_wp2
    refine ⟨Keeps.refl _ _, ?_⟩
    intro W3 hk3
    have s0 := hk3.cell (hcs 0 (by omega)) (cell_ne_loop hrec (hcs 0 (by omega)))
    have s1 := hk3.cell (hcs 1 (by omega)) (cell_ne_loop hrec (hcs 1 (by omega)))
    have s2 := hk3.cell (hcs 2 (by omega)) (cell_ne_loop hrec (hcs 2 (by omega)))
    have s3 := hk3.cell (hcs 3 (by omega)) (cell_ne_loop hrec (hcs 3 (by omega)))
    have z0 := hk3.cell (hca x0 b0) (cell_ne_loop hrec (hca x0 b0))
    have z1 := hk3.cell (hca x1 b1) (cell_ne_loop hrec (hca x1 b1))
    have z2 := hk3.cell (hca x2 b2) (cell_ne_loop hrec (hca x2 b2))
    have z3 := hk3.cell (hca x3 b3) (cell_ne_loop hrec (hca x3 b3))
    rw [toI_getD] at z0 z1 z2 z3
    have hh3 := hk3.cell i6 (cell_ne_loop hrec i6)
    have hr3 := hk3.cell i5 (cell_ne_loop hrec i5)
    have m3 : Boxed W3 (P + 2) 3 (.int .i64 (keepF H S pre).1) := keeps_all i1 hk3 (by omega)
    have k3 : Boxed W3 (P + 1) 22 (.slice a' (keepF H S pre).2.length c') := keeps_all i2 hk3 (by omega)
    simp only [toI, List.map_cons, List.map_nil, List.getD, List.getElem?_cons_zero, List.getElem?_cons_succ, Option.getD_some, Nat.add_zero] at s0 s1 s2 s3
    obtain ⟨y0, e0⟩ : ∃ y, H.getD x0 0 = y := ⟨_, rfl⟩
    obtain ⟨y1, e1⟩ : ∃ y, H.getD x1 0 = y := ⟨_, rfl⟩
    obtain ⟨y2, e2⟩ : ∃ y, H.getD x2 0 = y := ⟨_, rfl⟩
    obtain ⟨y3, e3⟩ : ∃ y, H.getD x3 0 = y := ⟨_, rfl⟩
    have hpk : pick H [x0, x1, x2, x3] = [y0, y1, y2, y3] := by simp only [pick, List.map_cons, List.map_nil, e0, e1, e2, e3]
    rw [e0] at z0
    rw [e1] at z1
    rw [e2] at z2
    rw [e3] at z3
    replace s0 := fun o => old_cell o s0
    replace s1 := fun o => old_cell o s1
    replace s2 := fun o => old_cell o s2
    replace s3 := fun o => old_cell o s3
    replace z0 := fun o => old_cell o z0
    replace z1 := fun o => old_cell o z1
    replace z2 := fun o => old_cell o z2
    replace z3 := fun o => old_cell o z3
    have HH3 := hide hh3
    replace hh3 := fun o => old_cell o hh3
    have HR3c := hide hr3
    replace hr3 := fun o => old_cell o hr3
    gi_wp2
    refine wpIn_loop_rounds 5 ?_
    rw [roundsIn_succ]
    gi_wp2
    rw [roundsIn_succ]
    gi_wp2
    rw [roundsIn_succ]
    gi_wp2
    rw [roundsIn_succ]
    gi_wp2
    rw [roundsIn_succ]
    gi_wp2_with fail
    have hW3 : P + 8 ≤ W3.heap.size := by have := hk3.size; omega
    have B3 : Below P w3 W3 := i7.trans (hk3.below (by omega) (fun k hk e => by omega))
    have R3S : Rd W3 a3 S.length c3 (toI S) := HR3.out.mono (by rw [HP.out]; exact B3)
    have R3K : Rd W3 a' (keepF H S pre).2.length c' (toI (keepF H S pre).2) := i3.keepsC hk3 (fun b off v e hc hx => cell_ne_loop hrec hc hx)
    have BA : Below W3.heap.size W3 (W3.alloc (Obj.cells #[Value.int IntKind.i64 y0, Value.int IntKind.i64 y1, Value.int IntKind.i64 y2, Value.int IntKind.i64 y3] 3)) := (Below.refl _ W3).alloc (Nat.le_refl _) _
    have R4N : Rd (W3.alloc (Obj.cells #[Value.int IntKind.i64 y0, Value.int IntKind.i64 y1, Value.int IntKind.i64 y2, Value.int IntKind.i64 y3] 3)) (some ⟨W3.heap.size, 0, none⟩) 4 4 (toI [y0, y1, y2, y3]) := Rd.of_blkC (Blk.new W3 3 [y0, y1, y2, y3] _ rfl) rfl (by omega)
    have S4 : (W3.alloc (Obj.cells #[Value.int IntKind.i64 y0, Value.int IntKind.i64 y1, Value.int IntKind.i64 y2, Value.int IntKind.i64 y3] 3)).heap.size = W3.heap.size + 1 := by simp
    rw [hpk] at hF
    have HSM : Hid (sumF H S [x0, x1, x2, x3] = sumSc [y0, y1, y2, y3] S S.length) := hide (by rw [sumF, hpk])
    generalize W3.alloc (Obj.cells #[Value.int IntKind.i64 y0, Value.int IntKind.i64 y1, Value.int IntKind.i64 y2, Value.int IntKind.i64 y3] 3) = W4 at *
    have m4 := boxed_below m3 BA (m3.lt)
    have k4 := boxed_below k3 BA (k3.lt)
    have SU := sumAll_any (some ⟨W3.heap.size, 0, none⟩) 4 a3 S.length c3 [y0, y1, y2, y3] S hF hS52 W4 R4N (R3S.mono BA)
    have hsum := hF.sum_le S.length (Nat.le_refl _)
    refine (CallsIn.inRound l2 (callsIn_wide.2 SU)).mono ?_
    rintro e W5 ⟨rfl, hB5⟩
    have m5 := boxed_below m4 hB5 m4.lt
    have k5 := boxed_below k4 hB5 k4.lt
    have B35 : Below W3.heap.size W3 W5 := BA.trans (hB5.mono (by omega))
    have K35 : Keeps (fun k => k = P + 1 ∨ k = P + 2) W3 W5 := Keeps.of_all B35
    have R5N := R4N.mono hB5
    have R5K := R3K.mono B35
    have C5r : W5.cell? ⟨P, 0, none⟩ = some (.slice a3 S.length c3) := (B35.cell (p := ⟨P, 0, none⟩) (by show P < _; omega)).trans HR3c.out
    have C5h : W5.cell? ⟨w.heap.size, 0, none⟩ = some (.slice (some ⟨ba, oa, none⟩) 6 c) := (B35.cell (p := ⟨w.heap.size, 0, none⟩) (by show w.heap.size < _; omega)).trans HH3.out
    have BP5 : Below P w3 W5 := B3.trans (B35.mono (by omega))
    obtain ⟨V, hV⟩ : ∃ V, sumSc [y0, y1, y2, y3] S S.length = V := ⟨_, rfl⟩
    rw [hV] at HSM hsum ⊢
    obtain ⟨M, hM⟩ : ∃ M, (keepF H S pre).1 = M := ⟨_, rfl⟩
    rw [hM] at m5
    have HM := hide hM
    have vc := m5.cell
    have vf := m5.frozen
    have kc := k5.cell
    have kf := k5.frozen
    have HK5 := hide K35
    have HR5N := hide R5N
    have HR5K := hide R5K
    have HC5r := hide C5r
    have HC5h := hide C5h
    have HBP5 := hide BP5
    have Hm5 := hide m5
    have Hk5 := hide k5
    have HW3 := hide hW3
    have HI4 := hide i4
    clear SU hB5 m4 k4 m3 k3 BA S4 R4N R3S R3K B3 hF hpk hV hM K35 R5N R5K C5r C5h BP5 m5 k5 s0 s1 s2 s3 z0 z1 z2 z3 hh3 hr3 i1 i2 i3 i4 i5 i6 i7 hk3 hrec hcs hca hrd hRH hRS B35
    by_cases hgt : M < (V : Int)
    · have hKS : Hid (keepF H S (pre ++ [[x0, x1, x2, x3]]) = ((V : Int), [y0, y1, y2, y3])) := hide (by
        rw [keepF_snoc, keepS, if_pos (by rw [HM.out, HSM.out]; exact hgt), HSM.out]
        simp only [pick, List.map_cons, List.map_nil, e0, e1, e2, e3])
      gi_wp2
      have KX : Keeps (fun k => k = P + 1 ∨ k = P + 2) W5 ((W5.setCell ⟨P + 1, 0, none⟩ (.slice (some ⟨W3.heap.size, 0, none⟩) 4 4)).setCell ⟨P + 2, 0, none⟩ (.int .i64 V)) :=
        Keeps.setCell (X := fun k => k = P + 1 ∨ k = P + 2) (p := ⟨P + 2, 0, none⟩) (Keeps.setCell (X := fun k => k = P + 1 ∨ k = P + 2) (p := ⟨P + 1, 0, none⟩) (Keeps.refl _ W5) (.inl rfl) _) (.inr rfl) _
      have hw3 := HW3.out
      refine ⟨HK5.out.trans KX, ?_⟩
      refine ⟨by rw [hKS.out]; exact (boxed_far Hm5.out (p := ⟨P + 1, 0, none⟩) (by show P + 2 ≠ P + 1; omega) _).set _, ⟨some ⟨W3.heap.size, 0, none⟩, 4, by rw [hKS.out]; exact boxed_far (Hk5.out.set _) (p := ⟨P + 2, 0, none⟩) (by show P + 1 ≠ P + 2; omega) _, by rw [hKS.out]; exact HR5N.out.keeps KX (fun b off e => by cases e; omega), fun b off e => by cases e; exact hw3⟩, KX.cell HC5r.out (by show ¬ (P = P + 1 ∨ P = P + 2); omega), KX.cell HC5h.out (by show ¬ (w.heap.size = P + 1 ∨ w.heap.size = P + 2); omega), HBP5.out.trans (KX.below (by have := HBP5.out.size; have := HP.out; omega) (fun k hk hx => by omega))⟩
    · have hKS : Hid (keepF H S (pre ++ [[x0, x1, x2, x3]]) = keepF H S pre) := hide (by
        rw [keepF_snoc, keepS, if_neg (by rw [HM.out, HSM.out]; exact hgt)])
      gi_wp2
      refine ⟨HK5.out, ?_⟩
      refine ⟨by rw [hKS.out, HM.out]; exact Hm5.out, ⟨a', c', by rw [hKS.out]; exact Hk5.out, by rw [hKS.out]; exact HR5K.out, ?_⟩, HC5r.out, HC5h.out, HBP5.out⟩
      exact HI4.out
  · rintro D W3 hD hI hK
    rw [hsz] at hD
    obtain ⟨h1, ⟨a', c', h2, h3, h4⟩, h5, h6, h7⟩ := hI
    have vc := h1.cell
    have kc := h2.cell
    have HK := hide hK
    have H3 := hide h3
    have H7 := hide h7
    clear h1 h2 h3 h4 h5 h6 h7 hK hI0 hk0 hn0
    go_wp2
    go_quiet (fail)
    go_wp2
    refine ⟨by simp, .inl ⟨_, _, rfl, run_takeDeferred HK.out, ?_⟩⟩
    refine ⟨_, results3 rfl _ _, a', c', rfl, ?_, ?_⟩
    · refine H3.out.keepsC (X := fun k => k = D) (Keeps.put (X := fun k => k = D) (Keeps.of_all (drewN_below _ W3 _)) (l := D) rfl _) (fun b off v _ hc e => ?_)
      subst e
      have hd := HK.out
      simp [World.cell?, hd] at hc
    · refine HB3.out.trans ((H7.out.trans (Keeps.below (X := fun k => k = D) (Keeps.put (X := fun k => k = D) (Keeps.of_all (drewN_below _ W3 _)) (l := D) rfl _) ?_ ?_)).mono (by omega))
      · have := H7.out.size; have := HP.out; omega
      · intro k hk e; omega

end Go.Proofs.Ytneafmjbekafmaa
