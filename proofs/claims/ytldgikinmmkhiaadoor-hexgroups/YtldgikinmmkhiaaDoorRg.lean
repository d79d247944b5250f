/-
  The document's own groups: labels that go down until none goes down any more; places of one label. No conditions beyond those that each theorem bears.
-/
import Derived.Test.YtldgikinmmkhiaaDoorLb
import Derived.Test.YtldgikinmmkhiaaDoorNe
import Derived.Test.YtldgikinmmkhiaaDoorCg
namespace Go.Proofs.YtldgikinmmkhiaaDoor
open Go.RowKit Go.Shelf

/-- The first labels, and where they lie. -/
structure Rs0 (b g n cb co N bc : Nat) (Z : List Int) (w W : World) (L : List Nat) : Prop where
  bd : Gd W b n n (some ⟨cb, co, none⟩) N bc
  rd : Rd W (some ⟨cb, co, none⟩) N bc Z
  row : Blk W g 3 (toI L)
  bel : Below b w W

theorem Rs0.drewN {b g n cb co N bc : Nat} {Z : List Int} {w W : World} {L : List Nat} (h : Rs0 b g n cb co N bc Z w W L) (q : Nat) : Rs0 b g n cb co N bc Z w (W.drewN q) L :=
  ⟨h.bd.drewN q, h.rd.mono (drewN_below _ _ _), h.row.below (drewN_below _ _ _) h.row.lt, h.bel.trans (drewN_below _ _ _)⟩

theorem Rs0.mono {b g n cb co N bc : Nat} {Z : List Int} {w W W' : World} {L : List Nat} (h : Rs0 b g n cb co N bc Z w W L) (hb : Below W.heap.size W W') : Rs0 b g n cb co N bc Z w W' L :=
  ⟨h.bd.below hb h.bd.lt, h.rd.mono hb, h.row.below hb h.row.lt, h.bel.trans (hb.mono (by have := h.bd.lt; omega))⟩

theorem Rs0.set {b g n cb co N bc : Nat} {Z : List Int} {w W : World} {L : List Nat} (h : Rs0 b g n cb co N bc Z w W L) (hg : b < g) (hcb : cb < b) (a x : Nat) : Rs0 b g n cb co N bc Z w (W.setCell ⟨g, a, none⟩ (.int .i64 x)) (L.set a x) := by
  have kk : Keeps (fun k => k = g) W (W.setCell ⟨g, a, none⟩ (.int .i64 x)) := Keeps.set1 _ _ _ _
  refine ⟨h.bd.keeps kk (by omega), h.rd.keeps kk (fun b' off e => by
    simp only [Option.some.injEq, Addr.mk.injEq] at e
    omega), ?_, h.bel.trans (kk.below (by have := h.bd.lt; omega) (fun q hq e => by omega))⟩
  rw [toI_set]
  exact h.row.set a x

theorem row_cell {b g n cb co N bc : Nat} {Z : List Int} {w W : World} {L : List Nat} (h : Rs0 b g n cb co N bc Z w W L) {a : Nat} (ha : a < L.length) : W.cell? ⟨g, a, none⟩ = some (.int .i64 (L.getD a 0 : Nat)) := by
  rw [h.row.cell (by rw [toI_len]; exact ha), toI_getD ha]

attribute [local irreducible] grp nbs grpsU toL toI lbl inL

set_option maxRecDepth 100000 in
set_option maxHeartbeats 16000000 in
theorem HexGroups_any (n cb co N bc m : Nat) (Z : List Int) (w : World) (hn : 1 ≤ n ∧ n ≤ 10) (hN : n * n = N) (h : Rd w (some ⟨cb, co, none⟩) N bc Z) :
    Calls Tryd.prog 15 #[.agg (gdA n n (some ⟨cb, co, none⟩) N bc), .int .i64 m] w fun e w' => ∃ a c, e = .returned (.slice a (grps n Z m).length c) ∧ Fl (fun k => w.heap.size ≤ k) w.heap.size w' (.slice a (grps n Z m).length c) (toL (grps n Z m)) ∧ Below w.heap.size w w' := by
  have hN100 : N ≤ 100 := by rw [← hN]; exact Nat.mul_le_mul hn.2 hn.2
  have hN1 : 1 ≤ N := by rw [← hN]; exact Nat.mul_le_mul hn.1 hn.1
  have hcb : cb < w.heap.size := h.blt hN1
  have HNN := hide hN
  have HNE := hide (fun a b (ha : a < N) (hb : b < N) W => near_any n a b hn (by rw [hN]; exact ha) (by rw [hN]; exact hb) W)
  obtain ⟨i0, hi, hz0, hz1, hz2⟩ := info_parts Tryd.info3
  have hmm : N ≤ maxLen := by unfold maxLen; omega
  have hby : i0.bytes * N ≤ 281474976710656 := by rw [hz2]; omega
  have HRD := hide h
  clear h
  go_enter Tryd.func15, Tryd.ntmps15
  go_upto_region 1 with fail
  obtain ⟨w1, hw1⟩ : ∃ w1, w.alloc (.cells (gdA n n (some ⟨cb, co, none⟩) N bc) 24) = w1 := ⟨_, rfl⟩
  rw [hw1]
  obtain ⟨s1, h1, B1⟩ := alloc_facts hw1
  have G1 : Gd w1 w.heap.size n n (some ⟨cb, co, none⟩) N bc := h1
  have g2 := G1.cells.2.2
  have HG1 := hide G1
  have HB1 := hide B1
  have HS1 : Hid (w1.heap.size = w.heap.size + 1) := hide s1
  clear hw1 h1 B1 s1 G1
  go_wp2_with (at_make; refine wpList_make_full w1 rfl _ _ 22 rfl w1.heap.size 3 i0 (.int .i64 0) 1 Tryd.underlying22 hi hz0 hz1 _ _ _ _ N rfl rfl rfl rfl hby hmm (Nat.le_refl _) ?_)
  intro w2 hown hgrow
  rw [made_ints] at hown
  have hb2 : Below w1.heap.size w1 w2 := (Below.refl _ _).grown hgrow (Nat.le_refl _) (fun k hk => by simp at hk)
  have hBk := Blk.of_own hown
  obtain ⟨g, hg⟩ : ∃ g, w1.heap.size = g := ⟨_, rfl⟩
  rw [hg] at hBk ⊢
  have HGB : Hid (w.heap.size < g) := hide (by have := HS1.out; omega)
  have HS2 : Hid (Rs0 w.heap.size g n cb co N bc Z w w2 (inL N 0)) := hide (by
    have B2 : Below w.heap.size w w2 := HB1.out.trans (hb2.mono HB1.out.size)
    exact ⟨HG1.out.below hb2 HG1.out.lt, HRD.out.mono B2, by rw [inL_zero]; exact hBk, B2⟩)
  clear hown hgrow hb2 hBk g2 hi hz0 hz1 hz2 hby hmm i0 hg
  have HSET := hide (fun (W : World) (L : List Nat) (hs : Rs0 w.heap.size g n cb co N bc Z w W L) (a x : Nat) => hs.set HGB.out hcb a x)
  go_wp2_with fail
  go_loopw [7] (fun v wr => ∃ k : Nat, v = .int .i64 k ∧ k ≤ N ∧ Hid (Rs0 w.heap.size g n cb co N bc Z w wr (inL N k))) (fun v _ => N - (intOf v).toNat)
  case atStart => exact ⟨0, rfl, by omega, HS2⟩
  case round =>
    obtain ⟨k, rfl, hkN, hS⟩ := hrel
    clear HS2
    by_cases hk : k < N
    · have hk' : (k : Int) < (N : Int) := by omega
      have ck := row_cell hS.out (a := k) (by rw [inL_len hkN]; exact hk)
      have fk := hS.out.row.frozen k
      have HS3 : Hid (Rs0 w.heap.size g n cb co N bc Z w (wr.setCell ⟨g, k, none⟩ (.int .i64 k)) (inL N (k + 1))) := hide (by rw [← inL_set hk]; exact HSET.out wr _ hS.out k k)
      generalize (inL N k).getD k 0 = y at *
      clear hS
      go_wp2_with fail
      exact ⟨⟨k + 1, rfl, by omega, HS3⟩, by simp only [intOf]; omega⟩
    · obtain rfl : N = k := by omega
      have HL0 : Hid (Rs0 w.heap.size g n cb co N bc Z w wr (List.range N)) := hide (by have := hS.out; rw [inL_full] at this; exact this)
      have HLB : Hid (Lb n Z m (List.range N)) := hide (by rw [← HNN.out]; exact Lb.begin n Z m)
      clear hS
      go_wp2_with fail
      go_loopg [8] ((List.range N).sum + 1) (fun gk v wr => ∃ (ch : Bool) (L : List Nat), v = .bool ch ∧ gk = (if ch = true then L.sum + 1 else 0) ∧ Hid (Rs0 w.heap.size g n cb co N bc Z w wr L) ∧ Hid (Lb n Z m L) ∧ Hid (ch = false → Fx n Z m L))
      case atStart => exact ⟨true, List.range N, rfl, rfl, HL0, HLB, hide (fun e => by cases e)⟩
      case round =>
        obtain ⟨ch, L, rfl, hgk, hS, hLb, hFx⟩ := hrel
        clear HL0 HLB
        cases ch with
        | true =>
          have HGK : Hid (gk = L.sum + 1) := hide (by simpa using hgk)
          clear hgk hFx
          go_wp2_with fail
          go_loopw [8, 9] (fun u v wr => ∃ (ch : Bool) (a : Nat) (L' : List Nat), u = .bool ch ∧ v = .int .i64 a ∧ a ≤ N ∧ Hid (Rs0 w.heap.size g n cb co N bc Z w wr L') ∧ Hid (Lb n Z m L') ∧ Hid (ch = true → L'.sum < L.sum) ∧ Hid (ch = false → L' = L ∧ ∀ a' b', a' < a → b' < N → okp n Z m L a' b')) (fun _ v _ => N - (intOf v).toNat)
          case atStart => exact ⟨false, 0, L, rfl, rfl, by omega, hS, hLb, hide (fun e => by cases e), hide (fun _ => ⟨rfl, fun a' b' h => absurd h (by omega)⟩)⟩
          case round =>
            obtain ⟨ch, a, L1, rfl, rfl, haN, hS1, hLb1, hT1, hF1⟩ := hrel
            by_cases ha : a < N
            · have ha' : (a : Int) < (N : Int) := by omega
              go_wp2_with fail
              go_loopw [8, 10] (fun u v wr => ∃ (ch : Bool) (b : Nat) (L' : List Nat), u = .bool ch ∧ v = .int .i64 b ∧ b ≤ N ∧ Hid (Rs0 w.heap.size g n cb co N bc Z w wr L') ∧ Hid (Lb n Z m L') ∧ Hid (ch = true → L'.sum < L.sum) ∧ Hid (ch = false → L' = L ∧ (∀ a' b', a' < a → b' < N → okp n Z m L a' b') ∧ ∀ b', b' < b → okp n Z m L a b')) (fun _ v _ => N - (intOf v).toNat)
              case atStart => exact ⟨ch, 0, L1, rfl, rfl, by omega, hS1, hLb1, hT1, hide (fun e => ⟨(hF1.out e).1, (hF1.out e).2, fun b' h => absurd h (by omega)⟩)⟩
              case round =>
                obtain ⟨ch, b, L2, rfl, rfl, hbN, hS2, hLb2, hT2, hF2⟩ := hrel
                clear hS1 hLb1 hT1 hF1
                by_cases hb : b < N
                · have hb' : (b : Int) < (N : Int) := by omega
                  have g2 := hS2.out.bd.cells.2.2
                  have g0 := hS2.out.bd.cells.1
                  have ca := (hS2.out.rd.cell ha).2
                  have cb' := (hS2.out.rd.cell hb).2
                  have hL2 : L2.length = N := by rw [hLb2.out.len, HNN.out]
                  have la := row_cell hS2.out (a := a) (by omega)
                  have lb := row_cell hS2.out (a := b) (by omega)
                  have fa := hS2.out.row.frozen a
                  have HDN : Hid (∀ q, Rs0 w.heap.size g n cb co N bc Z w (wr.drewN q) L2) := hide (fun q => hS2.out.drewN q)
                  have HNX := hide (HNE.out a b ha hb)
                  have HBE : Hid (∀ W4, Below wr.heap.size wr W4 → Rs0 w.heap.size g n cb co N bc Z w W4 L2) := hide (fun W4 hb => hS2.out.mono hb)
                  have hLL : L2.length = N := by rw [hLb2.out.len, HNN.out]
                  have HFC : Hid (∀ W4, Below wr.heap.size wr W4 → W4.cell? ⟨w.heap.size, 2, none⟩ = some (.slice (some ⟨cb, co, none⟩) N bc) ∧ W4.cell? ⟨w.heap.size, 0, none⟩ = some (.int .i64 n) ∧ W4.cell? ⟨cb, co + a, none⟩ = some (.int .i64 (Z.getD a 0)) ∧ W4.cell? ⟨cb, co + b, none⟩ = some (.int .i64 (Z.getD b 0)) ∧ W4.cell? ⟨g, a, none⟩ = some (.int .i64 (L2.getD a 0 : Nat)) ∧ W4.cell? ⟨g, b, none⟩ = some (.int .i64 (L2.getD b 0 : Nat))) := hide (fun W4 hb4 => ⟨(HBE.out W4 hb4).bd.cells.2.2, (HBE.out W4 hb4).bd.cells.1, ((HBE.out W4 hb4).rd.cell ha).2, ((HBE.out W4 hb4).rd.cell hb).2, row_cell (HBE.out W4 hb4) (by omega), row_cell (HBE.out W4 hb4) (by omega)⟩)
                  clear hLL
                  have HSTP := hide (fun (h1 : sg Z m a) (h2 : sg Z m b) (h3 : b ∈ nbs n a) (h4 : L2.getD b 0 < L2.getD a 0) => hLb2.out.step (by rw [HNN.out]; exact ha) (by rw [HNN.out]; exact hb) h1 h2 h3 h4)
                  have HOK : Hid ((¬ sg Z m a ∨ ¬ sg Z m b ∨ b ∉ nbs n a ∨ ¬ L2.getD b 0 < L2.getD a 0) → ch = false → L2 = L ∧ (∀ a' b', a' < a → b' < N → okp n Z m L a' b') ∧ ∀ b', b' < b + 1 → okp n Z m L a b') := hide (fun hno e => by
                    obtain ⟨e1, e2, e3⟩ := hF2.out e
                    refine ⟨e1, e2, fun b' hb' => ?_⟩
                    by_cases hbb : b' = b
                    · subst hbb
                      intro k1 k2 k3
                      rw [e1] at hno
                      rcases hno with h | h | h | h
                      · exact absurd k1 h
                      · exact absurd k2 h
                      · exact absurd k3 h
                      · omega
                    · exact e3 b' (by omega))
                  have HSA : Hid (sg Z m a ↔ Z.getD a 0 = (m : Int)) := hide Iff.rfl
                  have HSB : Hid (sg Z m b ↔ Z.getD b 0 = (m : Int)) := hide Iff.rfl
                  have HLE : Hid (L2.getD a 0 ≤ 100 ∧ L2.getD b 0 ≤ 100) := hide (by
                    have h1 := hLb2.out.le a (by rw [HNN.out]; exact ha)
                    have h2 := hLb2.out.le b (by rw [HNN.out]; exact hb)
                    omega)
                  have hLe := HLE.out
                  obtain ⟨za, hza⟩ : ∃ za, Z.getD a 0 = za := ⟨_, rfl⟩
                  obtain ⟨zb, hzb⟩ : ∃ zb, Z.getD b 0 = zb := ⟨_, rfl⟩
                  rw [hza] at ca HSA HFC
                  rw [hzb] at cb' HSB HFC
                  obtain ⟨ta, hta⟩ : ∃ ta, L2.getD a 0 = ta := ⟨_, rfl⟩
                  obtain ⟨tb, htb⟩ : ∃ tb, L2.getD b 0 = tb := ⟨_, rfl⟩
                  rw [hta] at la HOK HSTP hLe HFC
                  rw [htb] at lb HOK HSTP hLe HFC
                  have HTB := hide htb
                  have HF2' := hide hF2.out
                  clear hza hzb hta htb hL2 hF2
                  by_cases h1 : za = (m : Int)
                  rotate_left
                  · have b1 : (za == (m : Int)) = false := by simpa using h1
                    have HF3 := hide (HOK.out (Or.inl (fun h => h1 (HSA.out.1 h))))
                    clear h1 HOK HSTP
                    go_wp2_with fail
                    go_quiet (fail)
                    go_wp2_with fail
                    exact ⟨⟨ch, b + 1, L2, rfl, rfl, by omega, hide (HDN.out _), hLb2, hT2, HF3⟩, by simp only [intOf]; omega⟩
                  have b1 : (za == (m : Int)) = true := by simp [h1]
                  have HA1 := hide (HSA.out.2 h1)
                  by_cases h2 : zb = (m : Int)
                  rotate_left
                  · have b2 : (zb == (m : Int)) = false := by simpa using h2
                    have HF3 := hide (HOK.out (Or.inr (Or.inl (fun h => h2 (HSB.out.1 h)))))
                    clear h1 h2 HOK HSTP
                    go_wp2_with fail
                    go_quiet (fail)
                    go_wp2_with fail
                    exact ⟨⟨ch, b + 1, L2, rfl, rfl, by omega, hide (HDN.out _), hLb2, hT2, HF3⟩, by simp only [intOf]; omega⟩
                  have b2 : (zb == (m : Int)) = true := by simp [h2]
                  have HA2 := hide (HSB.out.2 h2)
                  by_cases h3 : b ∈ nbs n a
                  rotate_left
                  · rw [decide_eq_false h3] at HNX
                    have HF3 := hide (HOK.out (Or.inr (Or.inr (Or.inl h3))))
                    clear h1 h2 h3 HOK HSTP
                    go_wp2_with fail
                    refine wp_region_held (S := fun W4 => Below wr.heap.size wr W4) (by kernel_rfl) ?_
                    change wpAnyH _ _ _ _ _ _ _ _ (World.drew _)
                    have SW : Below wr.heap.size wr wr.drew := (Below.refl _ wr).drew
                    refine wpAnyH_take (i := 0) (v := .pointer (some ⟨w.heap.size, 2, none⟩)) rfl (by kernel_rfl) (by kernel_rfl) (by kernel_rfl) (fun _ _ _ h => h) (Or.inl ⟨by rfl, ?_⟩) SW ?_
                    · intro W4 hW4
                      obtain ⟨x0, x1, x2, x3, x4, x5⟩ := HFC.out W4 hW4
                      go_simp <;> first | done | rfl | (rw [IntKind.wrap_i64]; omega) | omega
                    go_simp
                    refine wpAnyH_take (i := 1) (v := .slice (some ⟨cb, co, none⟩) N bc) rfl (by kernel_rfl) (by kernel_rfl) (by kernel_rfl) (fun _ _ _ h => h) (Or.inl ⟨by rfl, ?_⟩) SW ?_
                    · intro W4 hW4
                      obtain ⟨x0, x1, x2, x3, x4, x5⟩ := HFC.out W4 hW4
                      go_simp <;> first | done | rfl | (rw [IntKind.wrap_i64]; omega) | omega
                    go_simp
                    refine wpAnyH_take (i := 2) (v := .int .i64 a) rfl (by kernel_rfl) (by kernel_rfl) (by kernel_rfl) (fun _ _ _ h => h) (Or.inl ⟨by rfl, ?_⟩) SW ?_
                    · intro W4 hW4
                      obtain ⟨x0, x1, x2, x3, x4, x5⟩ := HFC.out W4 hW4
                      go_simp <;> first | done | rfl | (rw [IntKind.wrap_i64]; omega) | omega
                    go_simp
                    refine wpAnyH_take (i := 3) (v := .pointer (some ⟨cb, co + a, none⟩)) rfl (by kernel_rfl) (by kernel_rfl) (by kernel_rfl) (fun _ _ _ h => h) (Or.inl ⟨by rfl, ?_⟩) SW ?_
                    · intro W4 hW4
                      obtain ⟨x0, x1, x2, x3, x4, x5⟩ := HFC.out W4 hW4
                      go_simp <;> first | done | rfl | (rw [IntKind.wrap_i64]; omega) | omega
                    go_simp
                    refine wpAnyH_take (i := 4) (v := .int .i64 za) rfl (by kernel_rfl) (by kernel_rfl) (by kernel_rfl) (fun _ _ _ h => h) (Or.inl ⟨by rfl, ?_⟩) SW ?_
                    · intro W4 hW4
                      obtain ⟨x0, x1, x2, x3, x4, x5⟩ := HFC.out W4 hW4
                      go_simp <;> first | done | rfl | (rw [IntKind.wrap_i64]; omega) | omega
                    go_simp
                    refine wpAnyH_take (i := 5) (v := .int .i64 m) rfl (by kernel_rfl) (by kernel_rfl) (by kernel_rfl) (fun _ _ _ h => h) (Or.inl ⟨by rfl, ?_⟩) SW ?_
                    · intro W4 hW4
                      obtain ⟨x0, x1, x2, x3, x4, x5⟩ := HFC.out W4 hW4
                      go_simp <;> first | done | rfl | (rw [IntKind.wrap_i64]; omega) | omega
                    go_simp
                    refine wpAnyH_take (i := 6) (v := .bool true) rfl (by kernel_rfl) (by kernel_rfl) (by kernel_rfl) (fun _ _ _ h => h) (Or.inl ⟨by rfl, ?_⟩) SW ?_
                    · intro W4 hW4
                      obtain ⟨x0, x1, x2, x3, x4, x5⟩ := HFC.out W4 hW4
                      go_simp <;> first | done | rfl | (rw [IntKind.wrap_i64]; omega) | omega
                    go_simp
                    refine wpAnyH_take (i := 7) (v := .bool true) rfl (by kernel_rfl) (by kernel_rfl) (by kernel_rfl) (fun _ _ _ h => h) (Or.inl ⟨by rfl, ?_⟩) SW ?_
                    · intro W4 hW4
                      obtain ⟨x0, x1, x2, x3, x4, x5⟩ := HFC.out W4 hW4
                      go_simp <;> first | done | rfl | (rw [IntKind.wrap_i64]; omega) | omega
                    go_simp
                    refine wpAnyH_take (i := 8) (v := .pointer (some ⟨w.heap.size, 2, none⟩)) rfl (by kernel_rfl) (by kernel_rfl) (by kernel_rfl) (fun _ _ _ h => h) (Or.inl ⟨by rfl, ?_⟩) SW ?_
                    · intro W4 hW4
                      obtain ⟨x0, x1, x2, x3, x4, x5⟩ := HFC.out W4 hW4
                      go_simp <;> first | done | rfl | (rw [IntKind.wrap_i64]; omega) | omega
                    go_simp
                    refine wpAnyH_take (i := 9) (v := .slice (some ⟨cb, co, none⟩) N bc) rfl (by kernel_rfl) (by kernel_rfl) (by kernel_rfl) (fun _ _ _ h => h) (Or.inl ⟨by rfl, ?_⟩) SW ?_
                    · intro W4 hW4
                      obtain ⟨x0, x1, x2, x3, x4, x5⟩ := HFC.out W4 hW4
                      go_simp <;> first | done | rfl | (rw [IntKind.wrap_i64]; omega) | omega
                    go_simp
                    refine wpAnyH_take (i := 10) (v := .int .i64 b) rfl (by kernel_rfl) (by kernel_rfl) (by kernel_rfl) (fun _ _ _ h => h) (Or.inl ⟨by rfl, ?_⟩) SW ?_
                    · intro W4 hW4
                      obtain ⟨x0, x1, x2, x3, x4, x5⟩ := HFC.out W4 hW4
                      go_simp <;> first | done | rfl | (rw [IntKind.wrap_i64]; omega) | omega
                    go_simp
                    refine wpAnyH_take (i := 11) (v := .pointer (some ⟨cb, co + b, none⟩)) rfl (by kernel_rfl) (by kernel_rfl) (by kernel_rfl) (fun _ _ _ h => h) (Or.inl ⟨by rfl, ?_⟩) SW ?_
                    · intro W4 hW4
                      obtain ⟨x0, x1, x2, x3, x4, x5⟩ := HFC.out W4 hW4
                      go_simp <;> first | done | rfl | (rw [IntKind.wrap_i64]; omega) | omega
                    go_simp
                    refine wpAnyH_take (i := 12) (v := .int .i64 zb) rfl (by kernel_rfl) (by kernel_rfl) (by kernel_rfl) (fun _ _ _ h => h) (Or.inl ⟨by rfl, ?_⟩) SW ?_
                    · intro W4 hW4
                      obtain ⟨x0, x1, x2, x3, x4, x5⟩ := HFC.out W4 hW4
                      go_simp <;> first | done | rfl | (rw [IntKind.wrap_i64]; omega) | omega
                    go_simp
                    refine wpAnyH_take (i := 13) (v := .int .i64 m) rfl (by kernel_rfl) (by kernel_rfl) (by kernel_rfl) (fun _ _ _ h => h) (Or.inl ⟨by rfl, ?_⟩) SW ?_
                    · intro W4 hW4
                      obtain ⟨x0, x1, x2, x3, x4, x5⟩ := HFC.out W4 hW4
                      go_simp <;> first | done | rfl | (rw [IntKind.wrap_i64]; omega) | omega
                    go_simp
                    refine wpAnyH_take (i := 14) (v := .bool true) rfl (by kernel_rfl) (by kernel_rfl) (by kernel_rfl) (fun _ _ _ h => h) (Or.inl ⟨by rfl, ?_⟩) SW ?_
                    · intro W4 hW4
                      obtain ⟨x0, x1, x2, x3, x4, x5⟩ := HFC.out W4 hW4
                      go_simp <;> first | done | rfl | (rw [IntKind.wrap_i64]; omega) | omega
                    go_simp
                    refine wpAnyH_take (i := 15) (v := .bool true) rfl (by kernel_rfl) (by kernel_rfl) (by kernel_rfl) (fun _ _ _ h => h) (Or.inl ⟨by rfl, ?_⟩) SW ?_
                    · intro W4 hW4
                      obtain ⟨x0, x1, x2, x3, x4, x5⟩ := HFC.out W4 hW4
                      go_simp <;> first | done | rfl | (rw [IntKind.wrap_i64]; omega) | omega
                    go_simp
                    refine wpAnyH_take (i := 16) (v := .bool true) rfl (by kernel_rfl) (by kernel_rfl) (by kernel_rfl) (fun _ _ _ h => h) (Or.inl ⟨by rfl, ?_⟩) SW ?_
                    · intro W4 hW4
                      obtain ⟨x0, x1, x2, x3, x4, x5⟩ := HFC.out W4 hW4
                      go_simp <;> first | done | rfl | (rw [IntKind.wrap_i64]; omega) | omega
                    go_simp
                    refine wpAnyH_take (i := 17) (v := .pointer (some ⟨w.heap.size, 0, none⟩)) rfl (by kernel_rfl) (by kernel_rfl) (by kernel_rfl) (fun _ _ _ h => h) (Or.inl ⟨by rfl, ?_⟩) SW ?_
                    · intro W4 hW4
                      obtain ⟨x0, x1, x2, x3, x4, x5⟩ := HFC.out W4 hW4
                      go_simp <;> first | done | rfl | (rw [IntKind.wrap_i64]; omega) | omega
                    go_simp
                    refine wpAnyH_take (i := 18) (v := .int .i64 n) rfl (by kernel_rfl) (by kernel_rfl) (by kernel_rfl) (fun _ _ _ h => h) (Or.inl ⟨by rfl, ?_⟩) SW ?_
                    · intro W4 hW4
                      obtain ⟨x0, x1, x2, x3, x4, x5⟩ := HFC.out W4 hW4
                      go_simp <;> first | done | rfl | (rw [IntKind.wrap_i64]; omega) | omega
                    go_simp
                    refine wpAnyH_take (i := 19) (v := .int .i64 a) rfl (by kernel_rfl) (by kernel_rfl) (by kernel_rfl) (fun _ _ _ h => h) (Or.inl ⟨by rfl, ?_⟩) SW ?_
                    · intro W4 hW4
                      obtain ⟨x0, x1, x2, x3, x4, x5⟩ := HFC.out W4 hW4
                      go_simp <;> first | done | rfl | (rw [IntKind.wrap_i64]; omega) | omega
                    go_simp
                    refine wpAnyH_take (i := 20) (v := .int .i64 b) rfl (by kernel_rfl) (by kernel_rfl) (by kernel_rfl) (fun _ _ _ h => h) (Or.inl ⟨by rfl, ?_⟩) SW ?_
                    · intro W4 hW4
                      obtain ⟨x0, x1, x2, x3, x4, x5⟩ := HFC.out W4 hW4
                      go_simp <;> first | done | rfl | (rw [IntKind.wrap_i64]; omega) | omega
                    go_simp
                    refine wpAnyH_ready (rs := [21]) (by kernel_rfl) (by simp) ?_
                    refine AllReadyH.cons rfl (fun K1 hK1 => ?_) AllReadyH.nil
                    go_simp
                    refine (HNX.out _).mono ?_
                    rintro e W5 ⟨rfl, q5, rfl⟩
                    have SW5 : Below wr.heap.size wr (wr.drew.drewN q5) := SW.trans (drewN_below _ _ _)
                    refine hK1.out _ _ SW5 (fun SW => ?_)
                    clear hK1 K1 SW5
                    generalize wr.drew.drewN q5 = wr5 at *
                    refine wpAnyH_take (i := 22) (v := .bool false) rfl (by kernel_rfl) (by kernel_rfl) (by kernel_rfl) (fun _ _ _ h => h) (Or.inl ⟨by rfl, ?_⟩) SW ?_
                    · intro W4 hW4
                      go_simp <;> first | done | rfl | (rw [IntKind.wrap_i64]; omega) | omega
                    go_simp
                    refine wpAnyH_take (i := 23) (v := .bool false) rfl (by kernel_rfl) (by kernel_rfl) (by kernel_rfl) (fun _ _ _ h => h) (Or.inl ⟨by rfl, ?_⟩) SW ?_
                    · intro W4 hW4
                      go_simp <;> first | done | rfl | (rw [IntKind.wrap_i64]; omega) | omega
                    go_simp
                    refine wpAnyH_take (i := 24) (v := undef) rfl (by kernel_rfl) (by kernel_rfl) (by kernel_rfl) (fun _ _ _ h => h) (Or.inr ⟨by rfl, rfl⟩) SW ?_
                    go_simp
                    refine wpAnyH_take (i := 25) (v := undef) rfl (by kernel_rfl) (by kernel_rfl) (by kernel_rfl) (fun _ _ _ h => h) (Or.inr ⟨by rfl, rfl⟩) SW ?_
                    go_simp
                    refine wpAnyH_take (i := 26) (v := undef) rfl (by kernel_rfl) (by kernel_rfl) (by kernel_rfl) (fun _ _ _ h => h) (Or.inr ⟨by rfl, rfl⟩) SW ?_
                    go_simp
                    refine wpAnyH_take (i := 27) (v := undef) rfl (by kernel_rfl) (by kernel_rfl) (by kernel_rfl) (fun _ _ _ h => h) (Or.inr ⟨by rfl, rfl⟩) SW ?_
                    go_simp
                    refine wpAnyH_take (i := 28) (v := undef) rfl (by kernel_rfl) (by kernel_rfl) (by kernel_rfl) (fun _ _ _ h => h) (Or.inr ⟨by rfl, rfl⟩) SW ?_
                    go_simp
                    refine wpAnyH_take (i := 29) (v := undef) rfl (by kernel_rfl) (by kernel_rfl) (by kernel_rfl) (fun _ _ _ h => h) (Or.inr ⟨by rfl, rfl⟩) SW ?_
                    go_simp
                    refine wpAnyH_take (i := 30) (v := undef) rfl (by kernel_rfl) (by kernel_rfl) (by kernel_rfl) (fun _ _ _ h => h) (Or.inr ⟨by rfl, rfl⟩) SW ?_
                    go_simp
                    refine wpAnyH_take (i := 31) (v := undef) rfl (by kernel_rfl) (by kernel_rfl) (by kernel_rfl) (fun _ _ _ h => h) (Or.inr ⟨by rfl, rfl⟩) SW ?_
                    go_simp
                    refine wpAnyH_take (i := 32) (v := undef) rfl (by kernel_rfl) (by kernel_rfl) (by kernel_rfl) (fun _ _ _ h => h) (Or.inr ⟨by rfl, rfl⟩) SW ?_
                    go_simp
                    refine wpAnyH_take (i := 33) (v := .bool false) rfl (by kernel_rfl) (by kernel_rfl) (by kernel_rfl) (fun _ _ _ h => h) (Or.inl ⟨by rfl, ?_⟩) SW ?_
                    · intro W4 hW4
                      go_simp <;> first | done | rfl | (rw [IntKind.wrap_i64]; omega) | omega
                    go_simp
                    refine wpAnyH_done (by kernel_rfl) ?_ _
                    have HS5 := hide (HBE.out wr5 SW)
                    clear SW
                    go_wp2_with fail
                    exact ⟨⟨ch, b + 1, L2, rfl, rfl, by omega, HS5, hLb2, hT2, HF3⟩, by simp only [intOf]; omega⟩
                  rw [decide_eq_true h3] at HNX
                  by_cases h4 : tb < ta
                  · have h4' : (tb : Int) < (ta : Int) := by omega
                    have HST := hide (HSTP.out HA1.out HA2.out h3 h4)
                    clear h1 h2 h3 h4 HOK HSTP
                    go_wp2_with fail
                    refine wp_region_held (S := fun W4 => Below wr.heap.size wr W4) (by kernel_rfl) ?_
                    change wpAnyH _ _ _ _ _ _ _ _ (World.drew _)
                    have SW : Below wr.heap.size wr wr.drew := (Below.refl _ wr).drew
                    refine wpAnyH_take (i := 0) (v := .pointer (some ⟨w.heap.size, 2, none⟩)) rfl (by kernel_rfl) (by kernel_rfl) (by kernel_rfl) (fun _ _ _ h => h) (Or.inl ⟨by rfl, ?_⟩) SW ?_
                    · intro W4 hW4
                      obtain ⟨x0, x1, x2, x3, x4, x5⟩ := HFC.out W4 hW4
                      go_simp <;> first | done | rfl | (rw [IntKind.wrap_i64]; omega) | omega
                    go_simp
                    refine wpAnyH_take (i := 1) (v := .slice (some ⟨cb, co, none⟩) N bc) rfl (by kernel_rfl) (by kernel_rfl) (by kernel_rfl) (fun _ _ _ h => h) (Or.inl ⟨by rfl, ?_⟩) SW ?_
                    · intro W4 hW4
                      obtain ⟨x0, x1, x2, x3, x4, x5⟩ := HFC.out W4 hW4
                      go_simp <;> first | done | rfl | (rw [IntKind.wrap_i64]; omega) | omega
                    go_simp
                    refine wpAnyH_take (i := 2) (v := .int .i64 a) rfl (by kernel_rfl) (by kernel_rfl) (by kernel_rfl) (fun _ _ _ h => h) (Or.inl ⟨by rfl, ?_⟩) SW ?_
                    · intro W4 hW4
                      obtain ⟨x0, x1, x2, x3, x4, x5⟩ := HFC.out W4 hW4
                      go_simp <;> first | done | rfl | (rw [IntKind.wrap_i64]; omega) | omega
                    go_simp
                    refine wpAnyH_take (i := 3) (v := .pointer (some ⟨cb, co + a, none⟩)) rfl (by kernel_rfl) (by kernel_rfl) (by kernel_rfl) (fun _ _ _ h => h) (Or.inl ⟨by rfl, ?_⟩) SW ?_
                    · intro W4 hW4
                      obtain ⟨x0, x1, x2, x3, x4, x5⟩ := HFC.out W4 hW4
                      go_simp <;> first | done | rfl | (rw [IntKind.wrap_i64]; omega) | omega
                    go_simp
                    refine wpAnyH_take (i := 4) (v := .int .i64 za) rfl (by kernel_rfl) (by kernel_rfl) (by kernel_rfl) (fun _ _ _ h => h) (Or.inl ⟨by rfl, ?_⟩) SW ?_
                    · intro W4 hW4
                      obtain ⟨x0, x1, x2, x3, x4, x5⟩ := HFC.out W4 hW4
                      go_simp <;> first | done | rfl | (rw [IntKind.wrap_i64]; omega) | omega
                    go_simp
                    refine wpAnyH_take (i := 5) (v := .int .i64 m) rfl (by kernel_rfl) (by kernel_rfl) (by kernel_rfl) (fun _ _ _ h => h) (Or.inl ⟨by rfl, ?_⟩) SW ?_
                    · intro W4 hW4
                      obtain ⟨x0, x1, x2, x3, x4, x5⟩ := HFC.out W4 hW4
                      go_simp <;> first | done | rfl | (rw [IntKind.wrap_i64]; omega) | omega
                    go_simp
                    refine wpAnyH_take (i := 6) (v := .bool true) rfl (by kernel_rfl) (by kernel_rfl) (by kernel_rfl) (fun _ _ _ h => h) (Or.inl ⟨by rfl, ?_⟩) SW ?_
                    · intro W4 hW4
                      obtain ⟨x0, x1, x2, x3, x4, x5⟩ := HFC.out W4 hW4
                      go_simp <;> first | done | rfl | (rw [IntKind.wrap_i64]; omega) | omega
                    go_simp
                    refine wpAnyH_take (i := 7) (v := .bool true) rfl (by kernel_rfl) (by kernel_rfl) (by kernel_rfl) (fun _ _ _ h => h) (Or.inl ⟨by rfl, ?_⟩) SW ?_
                    · intro W4 hW4
                      obtain ⟨x0, x1, x2, x3, x4, x5⟩ := HFC.out W4 hW4
                      go_simp <;> first | done | rfl | (rw [IntKind.wrap_i64]; omega) | omega
                    go_simp
                    refine wpAnyH_take (i := 8) (v := .pointer (some ⟨w.heap.size, 2, none⟩)) rfl (by kernel_rfl) (by kernel_rfl) (by kernel_rfl) (fun _ _ _ h => h) (Or.inl ⟨by rfl, ?_⟩) SW ?_
                    · intro W4 hW4
                      obtain ⟨x0, x1, x2, x3, x4, x5⟩ := HFC.out W4 hW4
                      go_simp <;> first | done | rfl | (rw [IntKind.wrap_i64]; omega) | omega
                    go_simp
                    refine wpAnyH_take (i := 9) (v := .slice (some ⟨cb, co, none⟩) N bc) rfl (by kernel_rfl) (by kernel_rfl) (by kernel_rfl) (fun _ _ _ h => h) (Or.inl ⟨by rfl, ?_⟩) SW ?_
                    · intro W4 hW4
                      obtain ⟨x0, x1, x2, x3, x4, x5⟩ := HFC.out W4 hW4
                      go_simp <;> first | done | rfl | (rw [IntKind.wrap_i64]; omega) | omega
                    go_simp
                    refine wpAnyH_take (i := 10) (v := .int .i64 b) rfl (by kernel_rfl) (by kernel_rfl) (by kernel_rfl) (fun _ _ _ h => h) (Or.inl ⟨by rfl, ?_⟩) SW ?_
                    · intro W4 hW4
                      obtain ⟨x0, x1, x2, x3, x4, x5⟩ := HFC.out W4 hW4
                      go_simp <;> first | done | rfl | (rw [IntKind.wrap_i64]; omega) | omega
                    go_simp
                    refine wpAnyH_take (i := 11) (v := .pointer (some ⟨cb, co + b, none⟩)) rfl (by kernel_rfl) (by kernel_rfl) (by kernel_rfl) (fun _ _ _ h => h) (Or.inl ⟨by rfl, ?_⟩) SW ?_
                    · intro W4 hW4
                      obtain ⟨x0, x1, x2, x3, x4, x5⟩ := HFC.out W4 hW4
                      go_simp <;> first | done | rfl | (rw [IntKind.wrap_i64]; omega) | omega
                    go_simp
                    refine wpAnyH_take (i := 12) (v := .int .i64 zb) rfl (by kernel_rfl) (by kernel_rfl) (by kernel_rfl) (fun _ _ _ h => h) (Or.inl ⟨by rfl, ?_⟩) SW ?_
                    · intro W4 hW4
                      obtain ⟨x0, x1, x2, x3, x4, x5⟩ := HFC.out W4 hW4
                      go_simp <;> first | done | rfl | (rw [IntKind.wrap_i64]; omega) | omega
                    go_simp
                    refine wpAnyH_take (i := 13) (v := .int .i64 m) rfl (by kernel_rfl) (by kernel_rfl) (by kernel_rfl) (fun _ _ _ h => h) (Or.inl ⟨by rfl, ?_⟩) SW ?_
                    · intro W4 hW4
                      obtain ⟨x0, x1, x2, x3, x4, x5⟩ := HFC.out W4 hW4
                      go_simp <;> first | done | rfl | (rw [IntKind.wrap_i64]; omega) | omega
                    go_simp
                    refine wpAnyH_take (i := 14) (v := .bool true) rfl (by kernel_rfl) (by kernel_rfl) (by kernel_rfl) (fun _ _ _ h => h) (Or.inl ⟨by rfl, ?_⟩) SW ?_
                    · intro W4 hW4
                      obtain ⟨x0, x1, x2, x3, x4, x5⟩ := HFC.out W4 hW4
                      go_simp <;> first | done | rfl | (rw [IntKind.wrap_i64]; omega) | omega
                    go_simp
                    refine wpAnyH_take (i := 15) (v := .bool true) rfl (by kernel_rfl) (by kernel_rfl) (by kernel_rfl) (fun _ _ _ h => h) (Or.inl ⟨by rfl, ?_⟩) SW ?_
                    · intro W4 hW4
                      obtain ⟨x0, x1, x2, x3, x4, x5⟩ := HFC.out W4 hW4
                      go_simp <;> first | done | rfl | (rw [IntKind.wrap_i64]; omega) | omega
                    go_simp
                    refine wpAnyH_take (i := 16) (v := .bool true) rfl (by kernel_rfl) (by kernel_rfl) (by kernel_rfl) (fun _ _ _ h => h) (Or.inl ⟨by rfl, ?_⟩) SW ?_
                    · intro W4 hW4
                      obtain ⟨x0, x1, x2, x3, x4, x5⟩ := HFC.out W4 hW4
                      go_simp <;> first | done | rfl | (rw [IntKind.wrap_i64]; omega) | omega
                    go_simp
                    refine wpAnyH_take (i := 17) (v := .pointer (some ⟨w.heap.size, 0, none⟩)) rfl (by kernel_rfl) (by kernel_rfl) (by kernel_rfl) (fun _ _ _ h => h) (Or.inl ⟨by rfl, ?_⟩) SW ?_
                    · intro W4 hW4
                      obtain ⟨x0, x1, x2, x3, x4, x5⟩ := HFC.out W4 hW4
                      go_simp <;> first | done | rfl | (rw [IntKind.wrap_i64]; omega) | omega
                    go_simp
                    refine wpAnyH_take (i := 18) (v := .int .i64 n) rfl (by kernel_rfl) (by kernel_rfl) (by kernel_rfl) (fun _ _ _ h => h) (Or.inl ⟨by rfl, ?_⟩) SW ?_
                    · intro W4 hW4
                      obtain ⟨x0, x1, x2, x3, x4, x5⟩ := HFC.out W4 hW4
                      go_simp <;> first | done | rfl | (rw [IntKind.wrap_i64]; omega) | omega
                    go_simp
                    refine wpAnyH_take (i := 19) (v := .int .i64 a) rfl (by kernel_rfl) (by kernel_rfl) (by kernel_rfl) (fun _ _ _ h => h) (Or.inl ⟨by rfl, ?_⟩) SW ?_
                    · intro W4 hW4
                      obtain ⟨x0, x1, x2, x3, x4, x5⟩ := HFC.out W4 hW4
                      go_simp <;> first | done | rfl | (rw [IntKind.wrap_i64]; omega) | omega
                    go_simp
                    refine wpAnyH_take (i := 20) (v := .int .i64 b) rfl (by kernel_rfl) (by kernel_rfl) (by kernel_rfl) (fun _ _ _ h => h) (Or.inl ⟨by rfl, ?_⟩) SW ?_
                    · intro W4 hW4
                      obtain ⟨x0, x1, x2, x3, x4, x5⟩ := HFC.out W4 hW4
                      go_simp <;> first | done | rfl | (rw [IntKind.wrap_i64]; omega) | omega
                    go_simp
                    refine wpAnyH_ready (rs := [21]) (by kernel_rfl) (by simp) ?_
                    refine AllReadyH.cons rfl (fun K1 hK1 => ?_) AllReadyH.nil
                    go_simp
                    refine (HNX.out _).mono ?_
                    rintro e W5 ⟨rfl, q5, rfl⟩
                    have SW5 : Below wr.heap.size wr (wr.drew.drewN q5) := SW.trans (drewN_below _ _ _)
                    refine hK1.out _ _ SW5 (fun SW => ?_)
                    clear hK1 K1 SW5
                    generalize wr.drew.drewN q5 = wr5 at *
                    refine wpAnyH_take (i := 22) (v := .bool true) rfl (by kernel_rfl) (by kernel_rfl) (by kernel_rfl) (fun _ _ _ h => h) (Or.inl ⟨by rfl, ?_⟩) SW ?_
                    · intro W4 hW4
                      go_simp <;> first | done | rfl | (rw [IntKind.wrap_i64]; omega) | omega
                    go_simp
                    refine wpAnyH_take (i := 23) (v := .bool true) rfl (by kernel_rfl) (by kernel_rfl) (by kernel_rfl) (fun _ _ _ h => h) (Or.inl ⟨by rfl, ?_⟩) SW ?_
                    · intro W4 hW4
                      go_simp <;> first | done | rfl | (rw [IntKind.wrap_i64]; omega) | omega
                    go_simp
                    refine wpAnyH_take (i := 24) (v := .slice (some ⟨g, 0, none⟩) N N) rfl (by kernel_rfl) (by kernel_rfl) (by kernel_rfl) (fun _ _ _ h => h) (Or.inl ⟨by rfl, ?_⟩) SW ?_
                    · intro W4 hW4
                      obtain ⟨x0, x1, x2, x3, x4, x5⟩ := HFC.out W4 hW4
                      go_simp <;> first | done | rfl | (rw [IntKind.wrap_i64]; omega) | omega
                    go_simp
                    refine wpAnyH_take (i := 25) (v := .int .i64 b) rfl (by kernel_rfl) (by kernel_rfl) (by kernel_rfl) (fun _ _ _ h => h) (Or.inl ⟨by rfl, ?_⟩) SW ?_
                    · intro W4 hW4
                      obtain ⟨x0, x1, x2, x3, x4, x5⟩ := HFC.out W4 hW4
                      go_simp <;> first | done | rfl | (rw [IntKind.wrap_i64]; omega) | omega
                    go_simp
                    refine wpAnyH_take (i := 26) (v := .pointer (some ⟨g, b, none⟩)) rfl (by kernel_rfl) (by kernel_rfl) (by kernel_rfl) (fun _ _ _ h => h) (Or.inl ⟨by rfl, ?_⟩) SW ?_
                    · intro W4 hW4
                      obtain ⟨x0, x1, x2, x3, x4, x5⟩ := HFC.out W4 hW4
                      go_simp <;> first | done | rfl | (rw [IntKind.wrap_i64]; omega) | omega
                    go_simp
                    refine wpAnyH_take (i := 27) (v := .int .i64 tb) rfl (by kernel_rfl) (by kernel_rfl) (by kernel_rfl) (fun _ _ _ h => h) (Or.inl ⟨by rfl, ?_⟩) SW ?_
                    · intro W4 hW4
                      obtain ⟨x0, x1, x2, x3, x4, x5⟩ := HFC.out W4 hW4
                      go_simp <;> first | done | rfl | (rw [IntKind.wrap_i64]; omega) | omega
                    go_simp
                    refine wpAnyH_take (i := 28) (v := .slice (some ⟨g, 0, none⟩) N N) rfl (by kernel_rfl) (by kernel_rfl) (by kernel_rfl) (fun _ _ _ h => h) (Or.inl ⟨by rfl, ?_⟩) SW ?_
                    · intro W4 hW4
                      obtain ⟨x0, x1, x2, x3, x4, x5⟩ := HFC.out W4 hW4
                      go_simp <;> first | done | rfl | (rw [IntKind.wrap_i64]; omega) | omega
                    go_simp
                    refine wpAnyH_take (i := 29) (v := .int .i64 a) rfl (by kernel_rfl) (by kernel_rfl) (by kernel_rfl) (fun _ _ _ h => h) (Or.inl ⟨by rfl, ?_⟩) SW ?_
                    · intro W4 hW4
                      obtain ⟨x0, x1, x2, x3, x4, x5⟩ := HFC.out W4 hW4
                      go_simp <;> first | done | rfl | (rw [IntKind.wrap_i64]; omega) | omega
                    go_simp
                    refine wpAnyH_take (i := 30) (v := .pointer (some ⟨g, a, none⟩)) rfl (by kernel_rfl) (by kernel_rfl) (by kernel_rfl) (fun _ _ _ h => h) (Or.inl ⟨by rfl, ?_⟩) SW ?_
                    · intro W4 hW4
                      obtain ⟨x0, x1, x2, x3, x4, x5⟩ := HFC.out W4 hW4
                      go_simp <;> first | done | rfl | (rw [IntKind.wrap_i64]; omega) | omega
                    go_simp
                    refine wpAnyH_take (i := 31) (v := .int .i64 ta) rfl (by kernel_rfl) (by kernel_rfl) (by kernel_rfl) (fun _ _ _ h => h) (Or.inl ⟨by rfl, ?_⟩) SW ?_
                    · intro W4 hW4
                      obtain ⟨x0, x1, x2, x3, x4, x5⟩ := HFC.out W4 hW4
                      go_simp <;> first | done | rfl | (rw [IntKind.wrap_i64]; omega) | omega
                    go_simp
                    refine wpAnyH_take (i := 32) (v := .bool true) rfl (by kernel_rfl) (by kernel_rfl) (by kernel_rfl) (fun _ _ _ h => h) (Or.inl ⟨by rfl, ?_⟩) SW ?_
                    · intro W4 hW4
                      go_simp <;> first | done | rfl | (rw [IntKind.wrap_i64]; omega) | omega
                    go_simp
                    refine wpAnyH_take (i := 33) (v := .bool true) rfl (by kernel_rfl) (by kernel_rfl) (by kernel_rfl) (fun _ _ _ h => h) (Or.inl ⟨by rfl, ?_⟩) SW ?_
                    · intro W4 hW4
                      go_simp <;> first | done | rfl | (rw [IntKind.wrap_i64]; omega) | omega
                    go_simp
                    refine wpAnyH_done (by kernel_rfl) ?_ _
                    have HS5 := hide (HBE.out wr5 SW)
                    clear SW
                    have lb5 := row_cell HS5.out (a := b) (by rw [hLb2.out.len, HNN.out]; exact hb)
                    have la5 := row_cell HS5.out (a := a) (by rw [hLb2.out.len, HNN.out]; exact ha)
                    rw [HTB.out] at lb5
                    have fa5 := HS5.out.row.frozen a
                    have HS6 : Hid (Rs0 w.heap.size g n cb co N bc Z w (wr5.setCell ⟨g, a, none⟩ (.int .i64 tb)) (L2.set a tb)) := hide (HSET.out _ _ HS5.out a tb)
                    clear g2 g0 ca cb' la lb fa
                    go_wp2_with fail
                    refine ⟨⟨true, b + 1, L2.set a tb, rfl, rfl, by omega, HS6, hide HST.out.1, hide (fun _ => ?_), hide (fun e => by cases e)⟩, by simp only [intOf]; omega⟩
                    have h1 := HST.out.2
                    cases hch : ch with
                    | true => have := hT2.out hch; omega
                    | false => rw [(HF2'.out hch).1] at h1 ⊢; exact h1
                  · have h4' : ¬ (tb : Int) < (ta : Int) := by omega
                    have HF3 := hide (HOK.out (Or.inr (Or.inr (Or.inr h4))))
                    clear h1 h2 h3 h4 HOK HSTP
                    go_wp2_with fail
                    refine wp_region_held (S := fun W4 => Below wr.heap.size wr W4) (by kernel_rfl) ?_
                    change wpAnyH _ _ _ _ _ _ _ _ (World.drew _)
                    have SW : Below wr.heap.size wr wr.drew := (Below.refl _ wr).drew
                    refine wpAnyH_take (i := 0) (v := .pointer (some ⟨w.heap.size, 2, none⟩)) rfl (by kernel_rfl) (by kernel_rfl) (by kernel_rfl) (fun _ _ _ h => h) (Or.inl ⟨by rfl, ?_⟩) SW ?_
                    · intro W4 hW4
                      obtain ⟨x0, x1, x2, x3, x4, x5⟩ := HFC.out W4 hW4
                      go_simp <;> first | done | rfl | (rw [IntKind.wrap_i64]; omega) | omega
                    go_simp
                    refine wpAnyH_take (i := 1) (v := .slice (some ⟨cb, co, none⟩) N bc) rfl (by kernel_rfl) (by kernel_rfl) (by kernel_rfl) (fun _ _ _ h => h) (Or.inl ⟨by rfl, ?_⟩) SW ?_
                    · intro W4 hW4
                      obtain ⟨x0, x1, x2, x3, x4, x5⟩ := HFC.out W4 hW4
                      go_simp <;> first | done | rfl | (rw [IntKind.wrap_i64]; omega) | omega
                    go_simp
                    refine wpAnyH_take (i := 2) (v := .int .i64 a) rfl (by kernel_rfl) (by kernel_rfl) (by kernel_rfl) (fun _ _ _ h => h) (Or.inl ⟨by rfl, ?_⟩) SW ?_
                    · intro W4 hW4
                      obtain ⟨x0, x1, x2, x3, x4, x5⟩ := HFC.out W4 hW4
                      go_simp <;> first | done | rfl | (rw [IntKind.wrap_i64]; omega) | omega
                    go_simp
                    refine wpAnyH_take (i := 3) (v := .pointer (some ⟨cb, co + a, none⟩)) rfl (by kernel_rfl) (by kernel_rfl) (by kernel_rfl) (fun _ _ _ h => h) (Or.inl ⟨by rfl, ?_⟩) SW ?_
                    · intro W4 hW4
                      obtain ⟨x0, x1, x2, x3, x4, x5⟩ := HFC.out W4 hW4
                      go_simp <;> first | done | rfl | (rw [IntKind.wrap_i64]; omega) | omega
                    go_simp
                    refine wpAnyH_take (i := 4) (v := .int .i64 za) rfl (by kernel_rfl) (by kernel_rfl) (by kernel_rfl) (fun _ _ _ h => h) (Or.inl ⟨by rfl, ?_⟩) SW ?_
                    · intro W4 hW4
                      obtain ⟨x0, x1, x2, x3, x4, x5⟩ := HFC.out W4 hW4
                      go_simp <;> first | done | rfl | (rw [IntKind.wrap_i64]; omega) | omega
                    go_simp
                    refine wpAnyH_take (i := 5) (v := .int .i64 m) rfl (by kernel_rfl) (by kernel_rfl) (by kernel_rfl) (fun _ _ _ h => h) (Or.inl ⟨by rfl, ?_⟩) SW ?_
                    · intro W4 hW4
                      obtain ⟨x0, x1, x2, x3, x4, x5⟩ := HFC.out W4 hW4
                      go_simp <;> first | done | rfl | (rw [IntKind.wrap_i64]; omega) | omega
                    go_simp
                    refine wpAnyH_take (i := 6) (v := .bool true) rfl (by kernel_rfl) (by kernel_rfl) (by kernel_rfl) (fun _ _ _ h => h) (Or.inl ⟨by rfl, ?_⟩) SW ?_
                    · intro W4 hW4
                      obtain ⟨x0, x1, x2, x3, x4, x5⟩ := HFC.out W4 hW4
                      go_simp <;> first | done | rfl | (rw [IntKind.wrap_i64]; omega) | omega
                    go_simp
                    refine wpAnyH_take (i := 7) (v := .bool true) rfl (by kernel_rfl) (by kernel_rfl) (by kernel_rfl) (fun _ _ _ h => h) (Or.inl ⟨by rfl, ?_⟩) SW ?_
                    · intro W4 hW4
                      obtain ⟨x0, x1, x2, x3, x4, x5⟩ := HFC.out W4 hW4
                      go_simp <;> first | done | rfl | (rw [IntKind.wrap_i64]; omega) | omega
                    go_simp
                    refine wpAnyH_take (i := 8) (v := .pointer (some ⟨w.heap.size, 2, none⟩)) rfl (by kernel_rfl) (by kernel_rfl) (by kernel_rfl) (fun _ _ _ h => h) (Or.inl ⟨by rfl, ?_⟩) SW ?_
                    · intro W4 hW4
                      obtain ⟨x0, x1, x2, x3, x4, x5⟩ := HFC.out W4 hW4
                      go_simp <;> first | done | rfl | (rw [IntKind.wrap_i64]; omega) | omega
                    go_simp
                    refine wpAnyH_take (i := 9) (v := .slice (some ⟨cb, co, none⟩) N bc) rfl (by kernel_rfl) (by kernel_rfl) (by kernel_rfl) (fun _ _ _ h => h) (Or.inl ⟨by rfl, ?_⟩) SW ?_
                    · intro W4 hW4
                      obtain ⟨x0, x1, x2, x3, x4, x5⟩ := HFC.out W4 hW4
                      go_simp <;> first | done | rfl | (rw [IntKind.wrap_i64]; omega) | omega
                    go_simp
                    refine wpAnyH_take (i := 10) (v := .int .i64 b) rfl (by kernel_rfl) (by kernel_rfl) (by kernel_rfl) (fun _ _ _ h => h) (Or.inl ⟨by rfl, ?_⟩) SW ?_
                    · intro W4 hW4
                      obtain ⟨x0, x1, x2, x3, x4, x5⟩ := HFC.out W4 hW4
                      go_simp <;> first | done | rfl | (rw [IntKind.wrap_i64]; omega) | omega
                    go_simp
                    refine wpAnyH_take (i := 11) (v := .pointer (some ⟨cb, co + b, none⟩)) rfl (by kernel_rfl) (by kernel_rfl) (by kernel_rfl) (fun _ _ _ h => h) (Or.inl ⟨by rfl, ?_⟩) SW ?_
                    · intro W4 hW4
                      obtain ⟨x0, x1, x2, x3, x4, x5⟩ := HFC.out W4 hW4
                      go_simp <;> first | done | rfl | (rw [IntKind.wrap_i64]; omega) | omega
                    go_simp
                    refine wpAnyH_take (i := 12) (v := .int .i64 zb) rfl (by kernel_rfl) (by kernel_rfl) (by kernel_rfl) (fun _ _ _ h => h) (Or.inl ⟨by rfl, ?_⟩) SW ?_
                    · intro W4 hW4
                      obtain ⟨x0, x1, x2, x3, x4, x5⟩ := HFC.out W4 hW4
                      go_simp <;> first | done | rfl | (rw [IntKind.wrap_i64]; omega) | omega
                    go_simp
                    refine wpAnyH_take (i := 13) (v := .int .i64 m) rfl (by kernel_rfl) (by kernel_rfl) (by kernel_rfl) (fun _ _ _ h => h) (Or.inl ⟨by rfl, ?_⟩) SW ?_
                    · intro W4 hW4
                      obtain ⟨x0, x1, x2, x3, x4, x5⟩ := HFC.out W4 hW4
                      go_simp <;> first | done | rfl | (rw [IntKind.wrap_i64]; omega) | omega
                    go_simp
                    refine wpAnyH_take (i := 14) (v := .bool true) rfl (by kernel_rfl) (by kernel_rfl) (by kernel_rfl) (fun _ _ _ h => h) (Or.inl ⟨by rfl, ?_⟩) SW ?_
                    · intro W4 hW4
                      obtain ⟨x0, x1, x2, x3, x4, x5⟩ := HFC.out W4 hW4
                      go_simp <;> first | done | rfl | (rw [IntKind.wrap_i64]; omega) | omega
                    go_simp
                    refine wpAnyH_take (i := 15) (v := .bool true) rfl (by kernel_rfl) (by kernel_rfl) (by kernel_rfl) (fun _ _ _ h => h) (Or.inl ⟨by rfl, ?_⟩) SW ?_
                    · intro W4 hW4
                      obtain ⟨x0, x1, x2, x3, x4, x5⟩ := HFC.out W4 hW4
                      go_simp <;> first | done | rfl | (rw [IntKind.wrap_i64]; omega) | omega
                    go_simp
                    refine wpAnyH_take (i := 16) (v := .bool true) rfl (by kernel_rfl) (by kernel_rfl) (by kernel_rfl) (fun _ _ _ h => h) (Or.inl ⟨by rfl, ?_⟩) SW ?_
                    · intro W4 hW4
                      obtain ⟨x0, x1, x2, x3, x4, x5⟩ := HFC.out W4 hW4
                      go_simp <;> first | done | rfl | (rw [IntKind.wrap_i64]; omega) | omega
                    go_simp
                    refine wpAnyH_take (i := 17) (v := .pointer (some ⟨w.heap.size, 0, none⟩)) rfl (by kernel_rfl) (by kernel_rfl) (by kernel_rfl) (fun _ _ _ h => h) (Or.inl ⟨by rfl, ?_⟩) SW ?_
                    · intro W4 hW4
                      obtain ⟨x0, x1, x2, x3, x4, x5⟩ := HFC.out W4 hW4
                      go_simp <;> first | done | rfl | (rw [IntKind.wrap_i64]; omega) | omega
                    go_simp
                    refine wpAnyH_take (i := 18) (v := .int .i64 n) rfl (by kernel_rfl) (by kernel_rfl) (by kernel_rfl) (fun _ _ _ h => h) (Or.inl ⟨by rfl, ?_⟩) SW ?_
                    · intro W4 hW4
                      obtain ⟨x0, x1, x2, x3, x4, x5⟩ := HFC.out W4 hW4
                      go_simp <;> first | done | rfl | (rw [IntKind.wrap_i64]; omega) | omega
                    go_simp
                    refine wpAnyH_take (i := 19) (v := .int .i64 a) rfl (by kernel_rfl) (by kernel_rfl) (by kernel_rfl) (fun _ _ _ h => h) (Or.inl ⟨by rfl, ?_⟩) SW ?_
                    · intro W4 hW4
                      obtain ⟨x0, x1, x2, x3, x4, x5⟩ := HFC.out W4 hW4
                      go_simp <;> first | done | rfl | (rw [IntKind.wrap_i64]; omega) | omega
                    go_simp
                    refine wpAnyH_take (i := 20) (v := .int .i64 b) rfl (by kernel_rfl) (by kernel_rfl) (by kernel_rfl) (fun _ _ _ h => h) (Or.inl ⟨by rfl, ?_⟩) SW ?_
                    · intro W4 hW4
                      obtain ⟨x0, x1, x2, x3, x4, x5⟩ := HFC.out W4 hW4
                      go_simp <;> first | done | rfl | (rw [IntKind.wrap_i64]; omega) | omega
                    go_simp
                    refine wpAnyH_ready (rs := [21]) (by kernel_rfl) (by simp) ?_
                    refine AllReadyH.cons rfl (fun K1 hK1 => ?_) AllReadyH.nil
                    go_simp
                    refine (HNX.out _).mono ?_
                    rintro e W5 ⟨rfl, q5, rfl⟩
                    have SW5 : Below wr.heap.size wr (wr.drew.drewN q5) := SW.trans (drewN_below _ _ _)
                    refine hK1.out _ _ SW5 (fun SW => ?_)
                    clear hK1 K1 SW5
                    generalize wr.drew.drewN q5 = wr5 at *
                    refine wpAnyH_take (i := 22) (v := .bool true) rfl (by kernel_rfl) (by kernel_rfl) (by kernel_rfl) (fun _ _ _ h => h) (Or.inl ⟨by rfl, ?_⟩) SW ?_
                    · intro W4 hW4
                      go_simp <;> first | done | rfl | (rw [IntKind.wrap_i64]; omega) | omega
                    go_simp
                    refine wpAnyH_take (i := 23) (v := .bool true) rfl (by kernel_rfl) (by kernel_rfl) (by kernel_rfl) (fun _ _ _ h => h) (Or.inl ⟨by rfl, ?_⟩) SW ?_
                    · intro W4 hW4
                      go_simp <;> first | done | rfl | (rw [IntKind.wrap_i64]; omega) | omega
                    go_simp
                    refine wpAnyH_take (i := 24) (v := .slice (some ⟨g, 0, none⟩) N N) rfl (by kernel_rfl) (by kernel_rfl) (by kernel_rfl) (fun _ _ _ h => h) (Or.inl ⟨by rfl, ?_⟩) SW ?_
                    · intro W4 hW4
                      obtain ⟨x0, x1, x2, x3, x4, x5⟩ := HFC.out W4 hW4
                      go_simp <;> first | done | rfl | (rw [IntKind.wrap_i64]; omega) | omega
                    go_simp
                    refine wpAnyH_take (i := 25) (v := .int .i64 b) rfl (by kernel_rfl) (by kernel_rfl) (by kernel_rfl) (fun _ _ _ h => h) (Or.inl ⟨by rfl, ?_⟩) SW ?_
                    · intro W4 hW4
                      obtain ⟨x0, x1, x2, x3, x4, x5⟩ := HFC.out W4 hW4
                      go_simp <;> first | done | rfl | (rw [IntKind.wrap_i64]; omega) | omega
                    go_simp
                    refine wpAnyH_take (i := 26) (v := .pointer (some ⟨g, b, none⟩)) rfl (by kernel_rfl) (by kernel_rfl) (by kernel_rfl) (fun _ _ _ h => h) (Or.inl ⟨by rfl, ?_⟩) SW ?_
                    · intro W4 hW4
                      obtain ⟨x0, x1, x2, x3, x4, x5⟩ := HFC.out W4 hW4
                      go_simp <;> first | done | rfl | (rw [IntKind.wrap_i64]; omega) | omega
                    go_simp
                    refine wpAnyH_take (i := 27) (v := .int .i64 tb) rfl (by kernel_rfl) (by kernel_rfl) (by kernel_rfl) (fun _ _ _ h => h) (Or.inl ⟨by rfl, ?_⟩) SW ?_
                    · intro W4 hW4
                      obtain ⟨x0, x1, x2, x3, x4, x5⟩ := HFC.out W4 hW4
                      go_simp <;> first | done | rfl | (rw [IntKind.wrap_i64]; omega) | omega
                    go_simp
                    refine wpAnyH_take (i := 28) (v := .slice (some ⟨g, 0, none⟩) N N) rfl (by kernel_rfl) (by kernel_rfl) (by kernel_rfl) (fun _ _ _ h => h) (Or.inl ⟨by rfl, ?_⟩) SW ?_
                    · intro W4 hW4
                      obtain ⟨x0, x1, x2, x3, x4, x5⟩ := HFC.out W4 hW4
                      go_simp <;> first | done | rfl | (rw [IntKind.wrap_i64]; omega) | omega
                    go_simp
                    refine wpAnyH_take (i := 29) (v := .int .i64 a) rfl (by kernel_rfl) (by kernel_rfl) (by kernel_rfl) (fun _ _ _ h => h) (Or.inl ⟨by rfl, ?_⟩) SW ?_
                    · intro W4 hW4
                      obtain ⟨x0, x1, x2, x3, x4, x5⟩ := HFC.out W4 hW4
                      go_simp <;> first | done | rfl | (rw [IntKind.wrap_i64]; omega) | omega
                    go_simp
                    refine wpAnyH_take (i := 30) (v := .pointer (some ⟨g, a, none⟩)) rfl (by kernel_rfl) (by kernel_rfl) (by kernel_rfl) (fun _ _ _ h => h) (Or.inl ⟨by rfl, ?_⟩) SW ?_
                    · intro W4 hW4
                      obtain ⟨x0, x1, x2, x3, x4, x5⟩ := HFC.out W4 hW4
                      go_simp <;> first | done | rfl | (rw [IntKind.wrap_i64]; omega) | omega
                    go_simp
                    refine wpAnyH_take (i := 31) (v := .int .i64 ta) rfl (by kernel_rfl) (by kernel_rfl) (by kernel_rfl) (fun _ _ _ h => h) (Or.inl ⟨by rfl, ?_⟩) SW ?_
                    · intro W4 hW4
                      obtain ⟨x0, x1, x2, x3, x4, x5⟩ := HFC.out W4 hW4
                      go_simp <;> first | done | rfl | (rw [IntKind.wrap_i64]; omega) | omega
                    go_simp
                    refine wpAnyH_take (i := 32) (v := .bool false) rfl (by kernel_rfl) (by kernel_rfl) (by kernel_rfl) (fun _ _ _ h => h) (Or.inl ⟨by rfl, ?_⟩) SW ?_
                    · intro W4 hW4
                      go_simp <;> first | done | rfl | (rw [IntKind.wrap_i64]; omega) | omega
                    go_simp
                    refine wpAnyH_take (i := 33) (v := .bool false) rfl (by kernel_rfl) (by kernel_rfl) (by kernel_rfl) (fun _ _ _ h => h) (Or.inl ⟨by rfl, ?_⟩) SW ?_
                    · intro W4 hW4
                      go_simp <;> first | done | rfl | (rw [IntKind.wrap_i64]; omega) | omega
                    go_simp
                    refine wpAnyH_done (by kernel_rfl) ?_ _
                    have HS5 := hide (HBE.out wr5 SW)
                    clear SW
                    go_wp2_with fail
                    exact ⟨⟨ch, b + 1, L2, rfl, rfl, by omega, HS5, hLb2, hT2, HF3⟩, by simp only [intOf]; omega⟩
                · obtain rfl : N = b := by omega
                  go_wp2_with fail
                  exact ⟨⟨ch, a + 1, L2, rfl, rfl, by omega, hS2, hLb2, hT2, hide (fun e => ⟨(hF2.out e).1, fun a' b' h1 h2 => by
                    by_cases haa : a' = a
                    · subst haa; exact (hF2.out e).2.2 b' h2
                    · exact (hF2.out e).2.1 a' b' (by omega) h2⟩)⟩, by simp only [intOf]; omega⟩
            · obtain rfl : N = a := by omega
              go_wp2_with fail
              go_roundg (if ch = true then L1.sum + 1 else 0)
              case measure =>
                have h1 := HGK.out
                cases hch : ch with
                | true => have := hT1.out hch; simp; omega
                | false => simp; omega
              case rel =>
                refine ⟨ch, L1, rfl, rfl, hS1, hLb1, hide (fun e a' b' h1 h2 => ?_)⟩
                rw [HNN.out] at h1 h2
                rw [(hF1.out e).1]
                exact (hF1.out e).2 a' b' h1 h2
        | false =>
          have HFX := hide (hFx.out rfl)
          clear hFx hgk
          go_wp2_with fail
          have HLD := hide (fun i (hi : i < N) => hLb.out.leader HFX.out (i := i) (by rw [HNN.out]; exact hi))
          have HGR := hide (fun i (hi : i < N) (hl : ldr n Z m i) => lbl_grp hLb.out HFX.out hl (i := i) (by rw [HNN.out]; exact hi))
          have HLL : Hid (L.length = N) := hide (by rw [hLb.out.len, HNN.out])
          have HLE : Hid (∀ q, q < N → L.getD q 0 ≤ 100) := hide (fun q hq => by have := hLb.out.le q (by rw [HNN.out]; exact hq); omega)
          have HGE : Hid (grps n Z m = grpsU n Z m N) := hide (by unfold grps; rw [HNN.out])
          have HUL := hide (grpsU_len n Z m)
          have HTN : Hid (toL (grpsU n Z m 0) = []) := hide (by rw [grpsU_zero]; unfold toL; rfl)
          have HTL0 : Hid ((grpsU n Z m 0).length = 0) := hide (by rw [grpsU_zero]; rfl)
          have HTL := hide (fun i => toL_len (grpsU n Z m i))
          obtain ⟨wz, hwz⟩ : ∃ wz, wr = wz := ⟨_, rfl⟩
          have HSZ : Hid (Rs0 w.heap.size g n cb co N bc Z w wz L) := hide (by rw [← hwz]; exact hS.out)
          have HGZ : Hid (g < wz.heap.size ∧ w.heap.size < wz.heap.size ∧ cb < wz.heap.size) := hide ⟨HSZ.out.row.lt, HSZ.out.bd.lt, by have := HSZ.out.bd.lt; omega⟩
          rw [hwz]
          clear hwz hS hLb HFX HNE HSET
          go_loopw [11, 12] (fun u v wr => ∃ (i c : Nat) (ad : Option Addr), u = .slice ad (grpsU n Z m i).length c ∧ v = .int .i64 i ∧ i ≤ N ∧ Hid (Fl (fun k => wz.heap.size ≤ k) wz.heap.size wr (.slice ad (grpsU n Z m i).length c) (toL (grpsU n Z m i))) ∧ Hid (Below wz.heap.size wz wr)) (fun _ v _ => N - (intOf v).toNat)
          case atStart =>
            refine ⟨0, 0, none, by rw [HTL0.out], rfl, by omega, hide ?_, hide (Below.refl _ _)⟩
            rw [HTL0.out, HTN.out]
            exact Fl.nil _ _ _
          case round =>
            obtain ⟨i, lc, la, rfl, rfl, hiN, hFl, hBz⟩ := hrel
            by_cases hi : i < N
            · have hi' : (i : Int) < (N : Int) := by omega
              have HS : Hid (∀ W4, Below wr.heap.size wr W4 → Rs0 w.heap.size g n cb co N bc Z w W4 L) := hide (fun W4 hb => (HSZ.out.mono hBz.out).mono hb)
              have hS0 := HS.out wr (Below.refl _ _)
              have g2 := hS0.bd.cells.2.2
              have ci := (hS0.rd.cell hi).2
              have li := row_cell hS0 (a := i) (by rw [HLL.out]; exact hi)
              have hle := HLE.out i hi
              have HLI := hide (HLD.out i hi)
              have HGI := hide (HGR.out i hi)
              have HSI : Hid (sg Z m i ↔ Z.getD i 0 = (m : Int)) := hide Iff.rfl
              have hUi := HUL.out i
              have HNO : Hid (¬ ldr n Z m i → grpsU n Z m (i + 1) = grpsU n Z m i) := hide grpsU_no
              have HYE : Hid (ldr n Z m i → grpsU n Z m (i + 1) = grpsU n Z m i ++ [grp n Z i]) := hide grpsU_yes
              have HTI := hide (HTL.out i)
              obtain ⟨zi, hzi⟩ : ∃ zi, Z.getD i 0 = zi := ⟨_, rfl⟩
              rw [hzi] at ci HSI
              obtain ⟨ti, hti⟩ : ∃ ti, L.getD i 0 = ti := ⟨_, rfl⟩
              rw [hti] at li hle HLI
              obtain ⟨U, hU⟩ : ∃ U, grpsU n Z m i = U := ⟨_, rfl⟩
              rw [hU] at hFl hUi HNO HYE HTI ⊢
              obtain ⟨ul, hul⟩ : ∃ ul, U.length = ul := ⟨_, rfl⟩
              rw [hul] at hFl hUi HTI ⊢
              have HUE := hide hU
              have HULE := hide hul
              clear hzi hti hS0 hU hul
              by_cases h1 : zi = (m : Int)
              rotate_left
              · have b1 : (zi != (m : Int)) = true := by simpa using h1
                have HN := hide (HNO.out (fun h => h1 (HSI.out.1 (HLI.out.1 h).1)))
                clear h1 HGI HYE HNO
                go_wp2_with fail
                refine ⟨⟨i + 1, lc, la, ?_, rfl, by omega, hide ?_, hBz⟩, by simp only [intOf]; omega⟩
                · rw [HN.out, HULE.out]
                · rw [HN.out, HULE.out]; exact hFl.out
              have b1 : (zi != (m : Int)) = false := by simp [h1]
              have HSG := hide (HSI.out.2 h1)
              by_cases h2 : ti = i
              rotate_left
              · have b2 : ((ti : Int) != (i : Int)) = true := by simp; omega
                have HN := hide (HNO.out (fun h => h2 (HLI.out.1 h).2))
                clear h1 h2 HGI HYE HNO
                go_wp2_with fail
                refine ⟨⟨i + 1, lc, la, ?_, rfl, by omega, hide ?_, hBz⟩, by simp only [intOf]; omega⟩
                · rw [HN.out, HULE.out]
                · rw [HN.out, HULE.out]; exact hFl.out
              have b2 : ((ti : Int) != (i : Int)) = false := by simp [h2]
              have HLR := hide (HLI.out.2 ⟨HSG.out, h2⟩)
              have HG := hide (HGI.out HLR.out)
              have HY := hide (HYE.out HLR.out)
              clear h1 h2 HGI HYE HNO HLI HSI
              go_wp2_with fail
              clear g2 ci li b1 b2
              obtain ⟨wy, hwy⟩ : ∃ wy, wr = wy := ⟨_, rfl⟩
              rw [hwy] at hFl hBz HS
              rw [hwy]
              have hzy := hBz.out.size
              clear hwy
              go_loopw [13, 14] (fun u v wr => ∃ (k c : Nat) (ad : Option Addr), u = .slice ad (lbl Z m L i k).length c ∧ v = .int .i64 k ∧ k ≤ N ∧ Hid (wr.ownsRow wy.heap.size 3 1 (.slice ad (lbl Z m L i k).length c) (lbl Z m L i k).length ((toI (lbl Z m L i k)).map (Value.int .i64))) ∧ Hid (Below wy.heap.size wy wr)) (fun _ v _ => N - (intOf v).toNat)
              case atStart =>
                have e0 : lbl Z m L i 0 = [] := lbl_zero Z m L i
                refine ⟨0, 0, none, by rw [e0]; rfl, rfl, by omega, hide ?_, hide (Below.refl _ _)⟩
                rw [e0]
                exact own_nilI _ _
              case round =>
                obtain ⟨k, xc, xa, rfl, rfl, hkN, hO, hBy⟩ := hrel
                by_cases hk : k < N
                · have hk' : (k : Int) < (N : Int) := by omega
                  have hS1 := HS.out wr hBy.out
                  have g2 := hS1.bd.cells.2.2
                  have ck := (hS1.rd.cell hk).2
                  have lk := row_cell hS1 (a := k) (by rw [HLL.out]; exact hk)
                  have hle := HLE.out k hk
                  have HSU := hide (lbl_succ Z m L i k)
                  have hxl := lbl_len Z m L i k
                  have HSK : Hid (sg Z m k ↔ Z.getD k 0 = (m : Int)) := hide Iff.rfl
                  obtain ⟨zk, hzk⟩ : ∃ zk, Z.getD k 0 = zk := ⟨_, rfl⟩
                  rw [hzk] at ck HSK
                  obtain ⟨tk, htk⟩ : ∃ tk, L.getD k 0 = tk := ⟨_, rfl⟩
                  rw [htk] at lk hle HSU
                  obtain ⟨X, hX⟩ : ∃ X, lbl Z m L i k = X := ⟨_, rfl⟩
                  rw [hX] at hO HSU hxl ⊢
                  obtain ⟨xl, hxle⟩ : ∃ xl, X.length = xl := ⟨_, rfl⟩
                  rw [hxle] at hO hxl ⊢
                  have HXL := hide hxle
                  clear hzk htk hX hxle hS1
                  by_cases h1 : zk = (m : Int)
                  rotate_left
                  · have b1 : (zk == (m : Int)) = false := by simpa using h1
                    rw [if_neg (fun h => h1 (HSK.out.1 h.1)), List.append_nil] at HSU
                    clear h1
                    go_wp2_with fail
                    refine ⟨⟨k + 1, xc, xa, by rw [HSU.out, HXL.out], rfl, by omega, hide (by rw [HSU.out, HXL.out]; exact hO.out), hBy⟩, by simp only [intOf]; omega⟩
                  have b1 : (zk == (m : Int)) = true := by simp [h1]
                  by_cases h2 : tk = i
                  rotate_left
                  · have b2 : ((tk : Int) == (i : Int)) = false := by simp; omega
                    rw [if_neg (fun h => h2 h.2), List.append_nil] at HSU
                    clear h1 h2
                    go_wp2_with fail
                    refine ⟨⟨k + 1, xc, xa, by rw [HSU.out, HXL.out], rfl, by omega, hide (by rw [HSU.out, HXL.out]; exact hO.out), hBy⟩, by simp only [intOf]; omega⟩
                  have b2 : ((tk : Int) == (i : Int)) = true := by simp [h2]
                  rw [if_pos ⟨HSK.out.2 h1, h2⟩] at HSU
                  have HLE1 : Hid ((X ++ [k]).length = xl + 1) := hide (by simp [HXL.out])
                  have hOa := hO.out.alloc (.cells #[.int .i64 k] 3)
                  have N5a := one_rd wr k
                  have hsy := hBy.out.size
                  clear h1 h2
                  go_wp2_with (at_builtin; refine wpList_append_i _ rfl _ _ rfl wy.heap.size _ xl _ rfl hOa ⟨wr.heap.size, 0, none⟩ 1 1 [(k : Int)] rfl N5a (by omega) (by omega) (by simp; omega) ?_)
                  intro v' w6 hO6 hg6 _
                  obtain ⟨a6, c6, rfl⟩ := slice_form hO6
                  have HO6 : Hid (w6.ownsRow wy.heap.size 3 1 (.slice a6 (xl + 1) c6) (xl + 1) ((toI (X ++ [k])).map (Value.int .i64))) := hide (by rw [toI_snoc, List.map_append]; exact hO6)
                  have HB6 : Hid (Below wy.heap.size wy w6) := hide ((hBy.out.alloc hsy _).grown hg6 (by simp; omega) (fun q hq => (hO.out.lt q hq).1))
                  clear hO6 hg6 hOa N5a g2 ck lk hO hBy
                  go_wp2_with fail
                  refine ⟨⟨k + 1, c6, a6, by rw [HSU.out, HLE1.out], rfl, by omega, hide (by rw [HSU.out, HLE1.out]; exact HO6.out), HB6⟩, by simp only [intOf]; omega⟩
                · obtain rfl : N = k := by omega
                  have HX : Hid (lbl Z m L i N = grp n Z i) := hide (by rw [← HNN.out]; exact HG.out)
                  have hxl := lbl_len Z m L i N
                  rw [HX.out] at hO hxl ⊢
                  obtain ⟨X, hXe⟩ : ∃ X, grp n Z i = X := ⟨_, rfl⟩
                  rw [hXe] at hO hxl HY ⊢
                  obtain ⟨xl, hxle⟩ : ∃ xl, X.length = xl := ⟨_, rfl⟩
                  rw [hxle] at hO hxl ⊢
                  have HXT : Hid ((toI X).length = xl) := hide (by rw [toI_len, hxle])
                  have hsy := hBy.out.size
                  have F1 := hFl.out.mono hBy.out
                  have I1 : Ir (fun q => wz.heap.size ≤ q) wr xa xl xc (toI X) := Ir.of_own hO.out (fun q h1 _ => by omega)
                  have B3 : Below wr.heap.size wr (wr.alloc (.cells #[.slice xa xl xc] 22)) := (Below.refl _ _).alloc (Nat.le_refl _) _
                  have F1a := F1.mono B3
                  have R1a : Fr (fun q => wz.heap.size ≤ q) (wr.alloc (.cells #[.slice xa xl xc] 22)) (some ⟨wr.heap.size, 0, none⟩) 1 1 [toI X] := by
                    refine Fr.one (a := xa) (c := xc) ?_ ?_
                    · rw [HXT.out]; exact new_cell wr _ 22
                    · rw [HXT.out]; exact I1.keeps (X := fun _ => False) (Keeps.of_all B3) (fun _ _ h => h)
                  have HYL : Hid ((U ++ [X]).length = ul + 1) := hide (by simp [HULE.out])
                  have HYT : Hid (toL (U ++ [X]) = toL U ++ [toI X]) := hide (toL_snoc U X)
                  have HBZ : Hid (Below wz.heap.size wz wr) := hide (hBz.out.trans (hBy.out.mono hzy))
                  clear hXe hxle F1 I1
                  go_wp2_with (at_builtin; refine wpList_append_fr _ rfl _ _ rfl wz.heap.size _ (toL U) rfl F1a (some ⟨wr.heap.size, 0, none⟩) 1 1 [toI X] rfl R1a (by rw [HTI.out]; omega) (by simp; omega) ?_)
                  intro v' w6 hF6 a6 c6 hv6 hg6
                  rw [HTI.out] at hv6
                  subst hv6
                  have HF6 := hide (hF6 (fun q => wz.heap.size ≤ q) (fun q _ h => h) (fun q h1 h2 => by have h3 : wr.heap.size ≤ q := (by first | omega | (simp at h1; omega)); omega))
                  have HB6 : Hid (Below wz.heap.size wz w6) := hide ((HBZ.out.alloc HBZ.out.size _).grown hg6 (by simp; omega) (fun q hq => by
                    obtain ⟨vs, k1, _, _⟩ := F1a
                    exact (k1.lt q hq).1))
                  clear hF6 hg6 F1a R1a B3
                  go_wp2_with fail
                  refine ⟨⟨i + 1, c6, a6, by rw [HY.out, HYL.out], rfl, by omega, hide ?_, HB6⟩, by simp only [intOf]; omega⟩
                  rw [HY.out, HYL.out, HYT.out]
                  exact HF6.out
            · obtain rfl : N = i := by omega
              have HBE : Hid (Below w.heap.size w wr) := hide (HSZ.out.bel.trans (hBz.out.mono (by have := HGZ.out; omega)))
              have HFE : Hid (Fl (fun k => w.heap.size ≤ k) w.heap.size wr (.slice la (grps n Z m).length lc) (toL (grps n Z m))) := hide (by
                rw [HGE.out]
                exact (hFl.out.wide (fun k _ hk => by have := HGZ.out; omega)).base (by have := HGZ.out; omega))
              have HGL : Hid ((grps n Z m).length = (grpsU n Z m N).length) := hide (by rw [HGE.out])
              go_wp2_with fail
              go_ret
              refine ⟨la, lc, ?_, HFE.out, HBE.out⟩
              rw [HGL.out]
              rfl

end Go.Proofs.YtldgikinmmkhiaaDoor
