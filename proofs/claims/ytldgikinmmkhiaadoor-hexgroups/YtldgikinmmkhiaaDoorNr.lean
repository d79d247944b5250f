/-
  A place reached, as the program does it: what the function inside needed leaves in memory. No conditions beyond those that each theorem bears.
-/
import Derived.Test.YtldgikinmmkhiaaDoorSh1
import Derived.Test.YtldgikinmmkhiaaDoorRp
namespace Go.Proofs.YtldgikinmmkhiaaDoor
open Go.RowKit Go.Shelf

theorem toI_set (T : List Nat) (q x : Nat) : toI (T.set q x) = (toI T).set q (x : Int) := by simp [toI, List.map_set]

/-- Blocks that are not the same. -/
structure Ds (b wb nb rb gN cb L2 : Nat) : Prop where
  lt : b < L2 ∧ wb < L2 ∧ nb < L2 ∧ rb < L2 ∧ gN < L2 ∧ cb < L2
  g : gN ≠ b ∧ gN ≠ wb ∧ gN ≠ nb ∧ gN ≠ rb ∧ gN ≠ cb
  r : rb ≠ b ∧ rb ≠ wb ∧ rb ≠ nb ∧ rb ≠ cb

/-- What needed holds: b, wb: the board, the player; nb, gN: the table; rb: the list of places reached, its row in a block of S, from L2 on. -/
structure Ns (b wb nb rb gN L2 n cb co N bc m : Nat) (Z : List Int) (S : Nat → Prop) (W : World) (T RL : List Nat) : Prop where
  bd : Hb W b n n (some ⟨cb, co, none⟩) N bc
  wh : Vb W wb 3 [.int .i64 m]
  rd : Rd W (some ⟨cb, co, none⟩) N bc Z
  nd : Vb W nb 22 [.slice (some ⟨gN, 0, none⟩) N N]
  row : Blk W gN 3 (toI T)
  rc : ∃ a c, Vb W rb 22 [.slice a RL.length c] ∧ W.ownsRow L2 3 1 (.slice a RL.length c) RL.length ((toI RL).map (Value.int .i64)) ∧ ∀ g, (Value.slice a RL.length c).ownBlock = some g → S g

section
variable {b wb nb rb gN L2 n cb co N bc m : Nat} {Z : List Int} {S S' X : Nat → Prop} {W W' : World} {T RL : List Nat}

theorem Ns.keeps (h : Ns b wb nb rb gN L2 n cb co N bc m Z S W T RL) (hk : Keeps X W W') (h0 : ¬ X b ∧ ¬ X wb ∧ ¬ X nb ∧ ¬ X rb ∧ ¬ X gN ∧ ¬ X cb) (hS : ∀ g, S g → ¬ X g) : Ns b wb nb rb gN L2 n cb co N bc m Z S W' T RL := by
  obtain ⟨a, c, k1, k2, k3⟩ := h.rc
  exact ⟨h.bd.keeps hk h0.1, h.wh.keeps hk h0.2.1, h.rd.keeps hk (fun b off e => by
      simp only [Option.some.injEq, Addr.mk.injEq] at e
      rw [← e.1]
      exact h0.2.2.2.2.2), h.nd.keeps hk h0.2.2.1, h.row.keeps hk h0.2.2.2.2.1, a, c, k1.keeps hk h0.2.2.2.1, own_blk k2 (fun g hg => hk.block g (k2.lt g hg).2 (hS g (k3 g hg))), k3⟩

theorem Ns.mono (h : Ns b wb nb rb gN L2 n cb co N bc m Z S W T RL) (hb : Below W.heap.size W W') : Ns b wb nb rb gN L2 n cb co N bc m Z S W' T RL :=
  h.keeps (X := fun _ => False) (Keeps.of_all hb) ⟨id, id, id, id, id, id⟩ (fun _ _ h => h)

theorem Ns.wide (h : Ns b wb nb rb gN L2 n cb co N bc m Z S W T RL) (hS : ∀ g, g < W.heap.size → S g → S' g) : Ns b wb nb rb gN L2 n cb co N bc m Z S' W T RL := by
  obtain ⟨a, c, k1, k2, k3⟩ := h.rc
  exact ⟨h.bd, h.wh, h.rd, h.nd, h.row, a, c, k1, k2, fun g hg => hS g (k2.lt g hg).2 (k3 g hg)⟩

/-- The block of the list's row, if there is one. -/
theorem Ns.own (h : Ns b wb nb rb gN L2 n cb co N bc m Z S W T RL) : ∃ S0 : Nat → Prop, Ns b wb nb rb gN L2 n cb co N bc m Z S0 W T RL ∧ (∀ g, S0 g → g < W.heap.size ∧ L2 ≤ g ∧ S g ∧ ∃ cur, W.heap[g]? = some (.cells cur 3 (0, 0))) := by
  obtain ⟨a, c, k1, k2, k3⟩ := h.rc
  refine ⟨fun g => (Value.slice a RL.length c).ownBlock = some g, ⟨h.bd, h.wh, h.rd, h.nd, h.row, a, c, k1, k2, fun g hg => hg⟩, fun g hg => ⟨(k2.lt g hg).2, (k2.lt g hg).1, k3 g hg, ?_⟩⟩
  obtain ⟨cur, hc⟩ := own_block k2 hg
  exact ⟨cur, hc⟩
end

attribute [local irreducible] toI

set_option maxRecDepth 100000 in
set_option maxHeartbeats 4000000 in
theorem reach_any (b wb nb rb gN L2 n cb co N bc m : Nat) (Z : List Int) (S : Nat → Prop) (W : World) (T RL : List Nat) (q c : Nat) (hD : Ds b wb nb rb gN cb L2) (hm : m = 1 ∨ m = 2) (hq : q < N) (hc : c ≤ 101) (hL2 : L2 ≤ W.heap.size) (hT : T.length = N) (hTl : ∀ q, q < N → T.getD q 0 ≤ 101) (hRL : RL.length ≤ 100000)
    (h : Ns b wb nb rb gN L2 n cb co N bc m Z S W T RL) :
    Calls Tryd.prog 62 #[.int .i64 q, .int .i64 c, .pointer (some ⟨b, 0, none⟩), .pointer (some ⟨wb, 0, none⟩), .pointer (some ⟨nb, 0, none⟩), .pointer (some ⟨rb, 0, none⟩)] W fun e W' => e = .returned (.tuple #[]) ∧ Ns b wb nb rb gN L2 n cb co N bc m Z (fun k => S k ∨ W.heap.size ≤ k) W' (rch Z m T RL q c).1 (rch Z m T RL q c).2 ∧ Keeps (fun k => k = gN ∨ k = rb ∨ S k) W W' := by
  have g2 := h.bd.cells.2.2
  have cz := (h.rd.cell hq).2
  have cw := h.wh.cell (i := 0) rfl
  have cn := h.nd.cell (i := 0) rfl
  have HH := hide h
  have hq' : (q : Int) < (N : Int) := by omega
  have ct : W.cell? ⟨gN, q, none⟩ = some (.int .i64 (T.getD q 0 : Nat)) := by
    rw [h.row.cell (by rw [toI_len]; omega), toI_getD (by omega)]
  have ft := h.row.frozen q
  have htq := hTl q hq
  have HO := hide (theOther_any m (by omega))
  have HRC : Hid (rch Z m T RL q c = if pas Z m q ∧ c + cst Z q < T.getD q 0 then (T.set q (c + cst Z q), RL ++ [q]) else (T, RL)) := hide rfl
  have HPA : Hid (pas Z m q ↔ Z.getD q 0 ≠ ((3 - m : Nat) : Int)) := hide Iff.rfl
  have HCS : Hid (cst Z q = if Z.getD q 0 = 0 then 1 else 0) := hide rfl
  have hbm : bc ≤ 9223372036854775807 := by have := h.rd.max; unfold maxLen at this; omega
  obtain ⟨z, hz⟩ : ∃ z, Z.getD q 0 = z := ⟨_, rfl⟩
  rw [hz] at cz HPA HCS
  obtain ⟨om, hom⟩ : ∃ om, 3 - m = om := ⟨_, rfl⟩
  rw [hom] at HPA HO
  have homb : 1 ≤ om ∧ om ≤ 2 := by omega
  have HSAME : Hid (rch Z m T RL q c = (T, RL) → Ns b wb nb rb gN L2 n cb co N bc m Z (fun k => S k ∨ W.heap.size ≤ k) W (rch Z m T RL q c).1 (rch Z m T RL q c).2 ∧ Keeps (fun k => k = gN ∨ k = rb ∨ S k) W W) := hide (fun e => by
    rw [e]; exact ⟨HH.out.wide (fun g _ hg => Or.inl hg), Keeps.refl _ _⟩)
  obtain ⟨R1, hR1⟩ : ∃ R1, (rch Z m T RL q c).1 = R1 := ⟨_, rfl⟩
  obtain ⟨R2, hR2⟩ : ∃ R2, (rch Z m T RL q c).2 = R2 := ⟨_, rfl⟩
  rw [hR1, hR2] at HSAME ⊢
  have HR1 := hide hR1
  have HR2 := hide hR2
  obtain ⟨tq, hte⟩ : ∃ tq, T.getD q 0 = tq := ⟨_, rfl⟩
  rw [hte] at ct htq HRC
  clear hz hom h hR1 hR2 hTl hte hT
  by_cases hzo : z = (om : Int)
  · have hzb : (z == (om : Int)) = true := by simp [hzo]
    have HE := hide (HSAME.out (by rw [HRC.out, if_neg (fun hh => HPA.out.1 hh.1 hzo)]))
    clear hzo HSAME HRC HPA HCS
    go_enter Tryd.func62, Tryd.ntmps62
    go_wp2_with fail
    refine (HO.out _).mono ?_
    rintro e wx ⟨rfl, hwx⟩
    subst wx
    go_wp2_with fail
    refine bodyPost_ret (results_none rfl _ _ _) rfl ?_
    exact ⟨rfl, HE.out⟩
  · have hzb : (z == (om : Int)) = false := by simpa using hzo
    have HP := hide (HPA.out.2 hzo)
    clear hzo HPA
    by_cases hzz : z = 0
    · have hz0 : (z == 0) = true := by simp [hzz]
      rw [if_pos hzz] at HCS
      clear hzz
      rw [HCS.out] at HRC
      by_cases hlt : c + 1 < tq
      · have HE : Hid (rch Z m T RL q c = (T.set q (c + 1), RL ++ [q])) := hide (by rw [HRC.out, if_pos ⟨HP.out, hlt⟩])
        obtain ⟨V, hV⟩ : ∃ V : Nat, c + 1 = V := ⟨_, rfl⟩
        have hVi : (c : Int) + 1 = (V : Int) := by omega
        rw [hV] at HE
        have hlt' : (V : Int) < (tq : Int) := by omega
        have hd := hD
        obtain ⟨a, cc2, k1, k2, k3⟩ := HH.out.rc
        have kk : Keeps (fun k => k = gN) W (W.setCell ⟨gN, q, none⟩ (.int .i64 V)) := Keeps.set1 _ _ _ _
        have M5 : Blk (W.setCell ⟨gN, q, none⟩ (.int .i64 V)) gN 3 (toI (T.set q V)) := by rw [toI_set]; exact HH.out.row.set q V
        have D5 := HH.out.bd.keeps kk (fun e => hd.g.1 e.symm)
        have H5 := HH.out.wh.keeps kk (fun e => hd.g.2.1 e.symm)
        have N5 := HH.out.nd.keeps kk (fun e => hd.g.2.2.1 e.symm)
        have E5 := HH.out.rd.keeps kk (fun b off e he => by
          simp only [Option.some.injEq, Addr.mk.injEq] at e
          rw [← e.1] at he
          exact hd.g.2.2.2.2 he.symm)
        have R5 := k1.keeps kk (fun e => hd.g.2.2.2.1 e.symm)
        have O5 : (W.setCell ⟨gN, q, none⟩ (.int .i64 V)).ownsRow L2 3 1 (.slice a RL.length cc2) RL.length ((toI RL).map (Value.int .i64)) := own_blk k2 (fun g hg => kk.block g (k2.lt g hg).2 (fun e => by have := (k2.lt g hg).1; have := hd.lt; omega))
        have s5 : W.heap.size ≤ (W.setCell ⟨gN, q, none⟩ (.int .i64 V)).heap.size := kk.size
        obtain ⟨W5, hW5⟩ : ∃ W5, W.setCell ⟨gN, q, none⟩ (.int .i64 V) = W5 := ⟨_, rfl⟩
        rw [hW5] at M5 D5 H5 N5 E5 R5 O5 s5 kk
        have c5 := R5.cell (i := 0) rfl
        have f5 := R5.frozen 0
        have c5a := old_cell (.cells #[.int .i64 q] 3) c5
        have O5a := O5.alloc (.cells #[.int .i64 q] 3)
        have N5a := one_rd W5 q
        have HM5 := hide M5
        have HD5 := hide D5
        have HH5 := hide H5
        have HN5 := hide N5
        have HE5 := hide E5
        have HRR5 := hide R5
        have HO5 := hide O5
        have HKK := hide kk
        have HK3 := hide k3
        obtain ⟨rl, hrl⟩ : ∃ rl, RL.length = rl := ⟨_, rfl⟩
        rw [hrl] at c5 c5a O5a hRL HO5 HRR5
        have HRL := hide hrl
        clear hd k1 k2 k3 M5 D5 H5 N5 E5 R5 O5 kk hrl hlt hV HRC HSAME
        go_enter Tryd.func62, Tryd.ntmps62
        go_wp2_with fail
        refine (HO.out _).mono ?_
        rintro e wx ⟨rfl, hwx⟩
        subst wx
        go_upto_region 6 with fail
        clear hW5 g2 cz cw cn ct ft
        go_wp2_with (at_builtin; refine wpList_append_i _ rfl _ _ rfl L2 _ rl _ rfl O5a ⟨W5.heap.size, 0, none⟩ 1 1 [(q : Int)] rfl N5a (by omega) (by omega) (by simp; omega) ?_)
        intro v' W6 hO6 hg6 hpl6
        obtain ⟨g6, c6, rfl, hgb6⟩ := own_some hO6 (by omega)
        have hO6b : W6.ownsRow L2 3 1 (.slice (some ⟨g6, 0, none⟩) (rl + 1) c6) (rl + 1) ((toI (RL ++ [q])).map (Value.int .i64)) := by rw [toI_snoc, List.map_append]; exact hO6
        have k56 : Keeps (fun k => (Value.slice a rl cc2).ownBlock = some k) W5 W6 := by
          refine ((Keeps.refl _ W5).alloc (.cells #[.int .i64 q] 3)).trans (keeps_grown hg6)
        have hne : ∀ k, (Value.slice a rl cc2).ownBlock = some k → L2 ≤ k := fun k hk => (HO5.out.lt k hk).1
        have e7 := hD.lt
        have M6 := HM5.out.keeps k56 (fun e => by have := hne _ e; omega)
        have R6 := HRR5.out.keeps k56 (fun e => by have := hne _ e; omega)
        have D6 := HD5.out.keeps k56 (fun e => by have := hne _ e; omega)
        have H6 := HH5.out.keeps k56 (fun e => by have := hne _ e; omega)
        have N6 := HN5.out.keeps k56 (fun e => by have := hne _ e; omega)
        have E6 := HE5.out.keeps k56 (fun b off e he => by
          simp only [Option.some.injEq, Addr.mk.injEq] at e
          have := hne _ he
          omega)
        have c6' := R6.cell (i := 0) rfl
        have f6 := R6.frozen 0
        have kk7 : Keeps (fun k => k = rb) W6 (W6.setCell ⟨rb, 0, none⟩ (.slice (some ⟨g6, 0, none⟩) (rl + 1) c6)) := Keeps.set1 _ _ _ _
        have hd := hD.r
        have HG7 : Hid (Ns b wb nb rb gN L2 n cb co N bc m Z (fun k => S k ∨ W.heap.size ≤ k) (W6.setCell ⟨rb, 0, none⟩ (.slice (some ⟨g6, 0, none⟩) (rl + 1) c6)) (T.set q V) (RL ++ [q])) := hide (by
          have hl : (RL ++ [q]).length = rl + 1 := by simp [HRL.out]
          refine ⟨D6.keeps kk7 (fun e => hd.1 e.symm), H6.keeps kk7 (fun e => hd.2.1 e.symm), E6.keeps kk7 (fun b off e he => by
            simp only [Option.some.injEq, Addr.mk.injEq] at e
            omega), N6.keeps kk7 (fun e => hd.2.2.1 e.symm), M6.keeps kk7 (fun e => hD.g.2.2.2.1 e), some ⟨g6, 0, none⟩, c6, ?_, ?_, ?_⟩
          · rw [hl]; exact R6.set 0 _
          · rw [hl]
            exact own_blk hO6b (fun g hg => kk7.block _ (hO6b.lt _ hg).2 (fun e => by have := (hO6b.lt g hg).1; omega))
          · rw [hl]
            intro g hg
            rcases hpl6 g hg with e | e
            · exact Or.inl (HK3.out g (by rw [HRL.out]; exact e))
            · right; first | omega | (simp at e; omega))
        have HK7 : Hid (Keeps (fun k => k = gN ∨ k = rb ∨ S k) W (W6.setCell ⟨rb, 0, none⟩ (.slice (some ⟨g6, 0, none⟩) (rl + 1) c6))) := hide (by
          refine (((HKK.out.mono (fun k _ e => Or.inl e)).after k56 (fun i hi e => ?_))).after kk7 (fun i _ e => Or.inr (Or.inl e))
          exact Or.inr (Or.inr (HK3.out i (by rw [HRL.out]; exact e))))
        clear hO6 hg6 hpl6 hO6b k56 M6 R6 D6 H6 N6 E6 kk7 O5a N5a c5 c5a f5 hgb6 e7 hne hd
        go_wp2_with fail
        refine bodyPost_end (results_none rfl _ _ _) rfl ?_
        refine ⟨rfl, ?_, HK7.out⟩
        rw [← HR1.out, ← HR2.out, HE.out]
        exact HG7.out
      · have HE := hide (HSAME.out (by rw [HRC.out, if_neg (fun hh => hlt hh.2)]))
        have hlt' : ¬ ((c : Int) + 1) < (tq : Int) := by omega
        clear hlt HRC HSAME
        go_enter Tryd.func62, Tryd.ntmps62
        go_wp2_with fail
        refine (HO.out _).mono ?_
        rintro e wx ⟨rfl, hwx⟩
        subst wx
        go_wp2_with fail
        refine bodyPost_end (results_none rfl _ _ _) rfl ?_
        exact ⟨rfl, HE.out⟩
    · have hz0 : (z == 0) = false := by simpa using hzz
      rw [if_neg hzz] at HCS
      clear hzz
      rw [HCS.out, Nat.add_zero] at HRC
      by_cases hlt : c < tq
      · have HE : Hid (rch Z m T RL q c = (T.set q (c), RL ++ [q])) := hide (by rw [HRC.out, if_pos ⟨HP.out, hlt⟩])
        have hlt' : (c : Int) < (tq : Int) := by omega
        have hd := hD
        obtain ⟨a, cc2, k1, k2, k3⟩ := HH.out.rc
        have kk : Keeps (fun k => k = gN) W (W.setCell ⟨gN, q, none⟩ (.int .i64 c)) := Keeps.set1 _ _ _ _
        have M5 : Blk (W.setCell ⟨gN, q, none⟩ (.int .i64 c)) gN 3 (toI (T.set q c)) := by rw [toI_set]; exact HH.out.row.set q c
        have D5 := HH.out.bd.keeps kk (fun e => hd.g.1 e.symm)
        have H5 := HH.out.wh.keeps kk (fun e => hd.g.2.1 e.symm)
        have N5 := HH.out.nd.keeps kk (fun e => hd.g.2.2.1 e.symm)
        have E5 := HH.out.rd.keeps kk (fun b off e he => by
          simp only [Option.some.injEq, Addr.mk.injEq] at e
          rw [← e.1] at he
          exact hd.g.2.2.2.2 he.symm)
        have R5 := k1.keeps kk (fun e => hd.g.2.2.2.1 e.symm)
        have O5 : (W.setCell ⟨gN, q, none⟩ (.int .i64 c)).ownsRow L2 3 1 (.slice a RL.length cc2) RL.length ((toI RL).map (Value.int .i64)) := own_blk k2 (fun g hg => kk.block g (k2.lt g hg).2 (fun e => by have := (k2.lt g hg).1; have := hd.lt; omega))
        have s5 : W.heap.size ≤ (W.setCell ⟨gN, q, none⟩ (.int .i64 c)).heap.size := kk.size
        obtain ⟨W5, hW5⟩ : ∃ W5, W.setCell ⟨gN, q, none⟩ (.int .i64 c) = W5 := ⟨_, rfl⟩
        rw [hW5] at M5 D5 H5 N5 E5 R5 O5 s5 kk
        have c5 := R5.cell (i := 0) rfl
        have f5 := R5.frozen 0
        have c5a := old_cell (.cells #[.int .i64 q] 3) c5
        have O5a := O5.alloc (.cells #[.int .i64 q] 3)
        have N5a := one_rd W5 q
        have HM5 := hide M5
        have HD5 := hide D5
        have HH5 := hide H5
        have HN5 := hide N5
        have HE5 := hide E5
        have HRR5 := hide R5
        have HO5 := hide O5
        have HKK := hide kk
        have HK3 := hide k3
        obtain ⟨rl, hrl⟩ : ∃ rl, RL.length = rl := ⟨_, rfl⟩
        rw [hrl] at c5 c5a O5a hRL HO5 HRR5
        have HRL := hide hrl
        clear hd k1 k2 k3 M5 D5 H5 N5 E5 R5 O5 kk hrl hlt HRC HSAME
        go_enter Tryd.func62, Tryd.ntmps62
        go_wp2_with fail
        refine (HO.out _).mono ?_
        rintro e wx ⟨rfl, hwx⟩
        subst wx
        go_upto_region 6 with fail
        clear hW5 g2 cz cw cn ct ft
        go_wp2_with (at_builtin; refine wpList_append_i _ rfl _ _ rfl L2 _ rl _ rfl O5a ⟨W5.heap.size, 0, none⟩ 1 1 [(q : Int)] rfl N5a (by omega) (by omega) (by simp; omega) ?_)
        intro v' W6 hO6 hg6 hpl6
        obtain ⟨g6, c6, rfl, hgb6⟩ := own_some hO6 (by omega)
        have hO6b : W6.ownsRow L2 3 1 (.slice (some ⟨g6, 0, none⟩) (rl + 1) c6) (rl + 1) ((toI (RL ++ [q])).map (Value.int .i64)) := by rw [toI_snoc, List.map_append]; exact hO6
        have k56 : Keeps (fun k => (Value.slice a rl cc2).ownBlock = some k) W5 W6 := by
          refine ((Keeps.refl _ W5).alloc (.cells #[.int .i64 q] 3)).trans (keeps_grown hg6)
        have hne : ∀ k, (Value.slice a rl cc2).ownBlock = some k → L2 ≤ k := fun k hk => (HO5.out.lt k hk).1
        have e7 := hD.lt
        have M6 := HM5.out.keeps k56 (fun e => by have := hne _ e; omega)
        have R6 := HRR5.out.keeps k56 (fun e => by have := hne _ e; omega)
        have D6 := HD5.out.keeps k56 (fun e => by have := hne _ e; omega)
        have H6 := HH5.out.keeps k56 (fun e => by have := hne _ e; omega)
        have N6 := HN5.out.keeps k56 (fun e => by have := hne _ e; omega)
        have E6 := HE5.out.keeps k56 (fun b off e he => by
          simp only [Option.some.injEq, Addr.mk.injEq] at e
          have := hne _ he
          omega)
        have c6' := R6.cell (i := 0) rfl
        have f6 := R6.frozen 0
        have kk7 : Keeps (fun k => k = rb) W6 (W6.setCell ⟨rb, 0, none⟩ (.slice (some ⟨g6, 0, none⟩) (rl + 1) c6)) := Keeps.set1 _ _ _ _
        have hd := hD.r
        have HG7 : Hid (Ns b wb nb rb gN L2 n cb co N bc m Z (fun k => S k ∨ W.heap.size ≤ k) (W6.setCell ⟨rb, 0, none⟩ (.slice (some ⟨g6, 0, none⟩) (rl + 1) c6)) (T.set q c) (RL ++ [q])) := hide (by
          have hl : (RL ++ [q]).length = rl + 1 := by simp [HRL.out]
          refine ⟨D6.keeps kk7 (fun e => hd.1 e.symm), H6.keeps kk7 (fun e => hd.2.1 e.symm), E6.keeps kk7 (fun b off e he => by
            simp only [Option.some.injEq, Addr.mk.injEq] at e
            omega), N6.keeps kk7 (fun e => hd.2.2.1 e.symm), M6.keeps kk7 (fun e => hD.g.2.2.2.1 e), some ⟨g6, 0, none⟩, c6, ?_, ?_, ?_⟩
          · rw [hl]; exact R6.set 0 _
          · rw [hl]
            exact own_blk hO6b (fun g hg => kk7.block _ (hO6b.lt _ hg).2 (fun e => by have := (hO6b.lt g hg).1; omega))
          · rw [hl]
            intro g hg
            rcases hpl6 g hg with e | e
            · exact Or.inl (HK3.out g (by rw [HRL.out]; exact e))
            · right; first | omega | (simp at e; omega))
        have HK7 : Hid (Keeps (fun k => k = gN ∨ k = rb ∨ S k) W (W6.setCell ⟨rb, 0, none⟩ (.slice (some ⟨g6, 0, none⟩) (rl + 1) c6))) := hide (by
          refine (((HKK.out.mono (fun k _ e => Or.inl e)).after k56 (fun i hi e => ?_))).after kk7 (fun i _ e => Or.inr (Or.inl e))
          exact Or.inr (Or.inr (HK3.out i (by rw [HRL.out]; exact e))))
        clear hO6 hg6 hpl6 hO6b k56 M6 R6 D6 H6 N6 E6 kk7 O5a N5a c5 c5a f5 hgb6 e7 hne hd
        go_wp2_with fail
        refine bodyPost_end (results_none rfl _ _ _) rfl ?_
        refine ⟨rfl, ?_, HK7.out⟩
        rw [← HR1.out, ← HR2.out, HE.out]
        exact HG7.out
      · have HE := hide (HSAME.out (by rw [HRC.out, if_neg (fun hh => hlt hh.2)]))
        have hlt' : ¬ (c : Int) < (tq : Int) := by omega
        clear hlt HRC HSAME
        go_enter Tryd.func62, Tryd.ntmps62
        go_wp2_with fail
        refine (HO.out _).mono ?_
        rintro e wx ⟨rfl, hwx⟩
        subst wx
        go_wp2_with fail
        refine bodyPost_end (results_none rfl _ _ _) rfl ?_
        exact ⟨rfl, HE.out⟩

end Go.Proofs.YtldgikinmmkhiaaDoor
