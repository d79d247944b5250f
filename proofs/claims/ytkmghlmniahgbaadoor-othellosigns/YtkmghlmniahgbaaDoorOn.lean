/-
  The start of the game as the document says it. No conditions beyond those that each theorem bears.
-/
import Derived.Test.YtkmghlmniahgbaaDoorNw
namespace Go.Proofs.YtkmghlmniahgbaaDoor
open Go.RowKit

/-- What lies at a place at the start. -/
def ov (a b x y : Nat) : Int := if (x + 1 = a ∨ x = a) ∧ (y + 1 = b ∨ y = b) then (if (x = a ↔ y = b) then 2 else 1) else 0
def ow (a b j : Nat) : List Int := (List.range j).map fun k => ov a b (k % (2 * a)) (k / (2 * a))

theorem ow_zero (a b : Nat) : ow a b 0 = [] := rfl
theorem ow_succ (a b x y : Nat) (hx : x < 2 * a) : ow a b (y * (2 * a) + x + 1) = ow a b (y * (2 * a) + x) ++ [ov a b x y] := by
  unfold ow
  rw [List.range_succ, List.map_append, List.map_cons, List.map_nil]
  rw [show (y * (2 * a) + x) % (2 * a) = x by rw [Nat.mul_comm, Nat.mul_add_mod, Nat.mod_eq_of_lt hx], show (y * (2 * a) + x) / (2 * a) = y by rw [Nat.mul_comm, Nat.mul_add_div (by omega), Nat.div_eq_of_lt hx, Nat.add_zero]]

theorem ow_all : ∀ a, a < 5 → ∀ b, b < 5 → 2 ≤ a → 2 ≤ b → ow a b (2 * b * (2 * a)) = st0 a b := by decide +kernel

theorem build24w (W H : Int) (w : World) : (Instr.build 24 #[(0, .int .i64 W), (1, .int .i64 H)]).run Tryd.prog w = .ok (.agg (gdA W H none 0 0)) w := by
  simp [Instr.build, go_sem, run_underlying Tryd.underlying24]

theorem results_gd1 {fn : Func} {t : Tmp} (h : fn.results = #[.cell t 24]) (tmps : Array Value) (w : World) (b : Nat) (hb : tmps.getD t undef = .pointer (some ⟨b, 0, none⟩)) {W H : Int} {ad : Option Addr} {n c : Nat} (hr : Gd w b W H ad n c) :
    (results fn tmps).run Tryd.prog w = .ok (.agg (gdA W H ad n c)) w := by
  have hb' : tmps[t]?.getD undef = .pointer (some ⟨b, 0, none⟩) := by simpa using hb
  have hl := run_loadVar_row (P := Tryd.prog) w b 24 24 (gdA W H ad n c) (0, 0) _ hr Tryd.underlying24 rfl size24
  simp [results, h, hb', asAddr, hl]

attribute [local go_sem] build24w
attribute [local irreducible] ow ov st0

set_option maxRecDepth 100000 in
set_option maxHeartbeats 8000000 in
theorem OthelloNew_any (a b : Nat) (ha : 2 ≤ a ∧ a ≤ 4) (hb : 2 ≤ b ∧ b ≤ 4) (w : World) :
    Calls Tryd.prog 15 #[.int .i64 (2 * a : Nat), .int .i64 (2 * b : Nat)] w fun e w' => ∃ a' c', e = .returned (.agg (gdA (2 * a : Nat) (2 * b : Nat) a' (2 * a * (2 * b)) c')) ∧ Rd w' a' (2 * a * (2 * b)) c' (st0 a b) ∧ Below w.heap.size w w' := by
  have t1 : Int.tdiv ((2 * b : Nat) : Int) 2 = (b : Int) := by rw [Int.tdiv_eq_ediv_of_nonneg (by omega)]; omega
  have t2 : Int.tdiv ((2 * a : Nat) : Int) 2 = (a : Int) := by rw [Int.tdiv_eq_ediv_of_nonneg (by omega)]; omega
  have t1' : ((2 * b : Nat) : Int) / 2 = (b : Int) := by omega
  have t2' : ((2 * a : Nat) : Int) / 2 = (a : Int) := by omega
  have HALL : Hid (ow a b (2 * b * (2 * a)) = st0 a b) := hide (ow_all a (by omega) b (by omega) ha.1 hb.1)
  have hmc : 2 * a * (2 * b) = 2 * b * (2 * a) := Nat.mul_comm _ _
  rw [hmc]
  have HSC := hide (fun x y (hx : x < 2 * a) => ow_succ a b x y hx)
  have hn64 : 2 * b * (2 * a) ≤ 64 := Nat.mul_le_mul (show 2 * b ≤ 8 by omega) (show 2 * a ≤ 8 by omega)
  have hMO : Hid (∀ y, y ≤ 2 * b → y * (2 * a) ≤ 2 * b * (2 * a)) := hide (fun y hy => Nat.mul_le_mul_right _ hy)
  have HMS : Hid (∀ y, (y + 1) * (2 * a) = y * (2 * a) + 2 * a) := hide (fun y => Nat.succ_mul _ _)
  have hW8 : 2 * a ≤ 8 := by omega
  have hH8 : 2 * b ≤ 8 := by omega
  clear hmc
  obtain ⟨n, hn⟩ : ∃ n, 2 * b * (2 * a) = n := ⟨_, rfl⟩
  rw [hn] at HALL hn64 hMO ⊢
  have HNN : Hid (2 * b * (2 * a) = n) := hide hn
  generalize 2 * a = W at *
  generalize 2 * b = H at *
  clear hn
  obtain ⟨w1, hw1⟩ : ∃ w1, (w.alloc (.cells (gdA 0 0 none 0 0) 24)).alloc (.cells (gdA 0 0 none 0 0) 24) = w1 := ⟨_, rfl⟩
  have HB1 : Hid (Below w.heap.size w w1) := hide (by rw [← hw1]; exact ((Below.refl _ _).alloc (Nat.le_refl _) _).alloc (by simp) _)
  have Z1 : Gd w1 w.heap.size 0 0 none 0 0 := by rw [← hw1]; exact (Gd.new _ _ _ _ _ _).old _
  have KZ : Gd w1 (w.heap.size + 1) 0 0 none 0 0 := by
    rw [← hw1]
    have := Gd.new (w.alloc (.cells (gdA 0 0 none 0 0) 24)) 0 0 none 0 0
    rw [World.size_alloc] at this
    exact this
  have hs1 : w.heap.size + 2 ≤ w1.heap.size ∧ w1.heap.size ≤ w.heap.size + 2 := by rw [← hw1]; simp
  have HZ1 := hide Z1
  clear Z1
  go_enter Tryd.func15, Tryd.ntmps15
  go_upto_region 2 with (refine wpList_store_gd rfl (.tmp 5) (.tmp 11) rfl (w.heap.size + 1) rfl rfl KZ ?_; intro w2 G2 kk2)
  clear hw1 KZ
  obtain ⟨gb, hgb⟩ : ∃ gb, w.heap.size + 1 = gb := ⟨_, rfl⟩
  rw [hgb] at G2 kk2 ⊢
  have HK2 : Hid (Keeps (fun k => k = gb ∨ w1.heap.size ≤ k) w1 w2) := hide (kk2.mono (fun _ _ e => Or.inl e))
  have HG2 := hide G2
  clear kk2 G2
  go_wp2_with fail
  go_loopw [6] (fun u wr => ∃ (y j cp : Nat) (ad : Option Addr), u = .int .i64 y ∧ y ≤ H ∧ Hid (j = y * W) ∧ Hid (Gd wr gb W H ad j cp) ∧ Hid (wr.ownsRow w1.heap.size 3 1 (.slice ad j cp) j ((ow a b j).map (Value.int .i64))) ∧ Hid (Keeps (fun k => k = gb ∨ w1.heap.size ≤ k) w1 wr)) (fun u _ => H - (intOf u).toNat)
  case atStart => exact ⟨0, 0, 0, none, rfl, by omega, hide (by simp), HG2, hide (by rw [ow_zero]; exact World.ownsRow_nil _ _ _ _), HK2⟩
  case round =>
    obtain ⟨y, j0, cp0, ad0, rfl, hyH, hj0, hG0, hL0, hK0⟩ := hrel
    by_cases hlt : y < H
    · have hlt' : (y : Int) < (H : Int) := by omega
      go_wp2_with fail
      go_loopw [7] (fun u wr => ∃ (x j cp : Nat) (ad : Option Addr), u = .int .i64 x ∧ x ≤ W ∧ Hid (j = y * W + x) ∧ Hid (Gd wr gb W H ad j cp) ∧ Hid (wr.ownsRow w1.heap.size 3 1 (.slice ad j cp) j ((ow a b j).map (Value.int .i64))) ∧ Hid (Keeps (fun k => k = gb ∨ w1.heap.size ≤ k) w1 wr)) (fun u _ => W - (intOf u).toNat)
      case atStart => exact ⟨0, j0, cp0, ad0, rfl, by omega, hj0, hG0, hL0, hK0⟩
      case round =>
        obtain ⟨x, j, cp, ad, rfl, hxW, hj, hG, hL, hK⟩ := hrel
        clear hG0 hL0 hK0 hj0
        by_cases hltx : x < W
        · have hltx' : (x : Int) < (W : Int) := by omega
          have hjn : j + 1 ≤ 64 := by
            have h1 := hMO.out (y + 1) hlt
            rw [HMS.out] at h1
            have h2 := hj.out
            omega
          have HS : Hid (ow a b (j + 1) = ow a b j ++ [ov a b x y]) := hide (by rw [hj.out]; exact HSC.out x y hltx)
          have HJ : Hid (j + 1 = y * W + (x + 1)) := hide (by rw [hj.out]; rfl)
          clear hj
          have hx : (x + 1 = a) ∨ (x = a) ∨ (¬ x + 1 = a ∧ ¬ x = a) := by omega
          have hy : (y + 1 = b) ∨ (y = b) ∨ (¬ y + 1 = b ∧ ¬ y = b) := by omega
          rcases hx with hx | hx | hx
          · rcases hy with hy | hy | hy
            · have a1 : ((x : Int) == (a : Int) - 1) = true := by rw [beq_iff_eq]; omega
              have a2 : ((x : Int) == (a : Int)) = false := by rw [beq_eq_false_iff_ne]; omega
              have b1 : ((y : Int) == (b : Int) - 1) = true := by rw [beq_iff_eq]; omega
              have b2 : ((y : Int) == (b : Int)) = false := by rw [beq_eq_false_iff_ne]; omega
              have HV : Hid (ov a b x y = 2) := hide (by unfold ov; rw [if_pos (by omega)]; rw [if_pos (by omega)])
              rw [HV.out] at HS
              clear hx hy
              have hR1 : Rd (World.alloc wr (.cells #[.int .i64 2] 3)) (some ⟨wr.heap.size, 0, none⟩) 1 1 [2] := Rd.of_blk (Blk.new wr 3 [2] _ rfl) rfl (by decide)
              have hOa := hL.out.alloc (.cells #[.int .i64 2] 3)
              have hsz : w1.heap.size ≤ (World.alloc wr (.cells #[.int .i64 2] 3)).heap.size := by have := hK.out.size; rw [World.size_alloc]; exact Nat.le_succ_of_le this
              have KA := hK.out.alloc (.cells #[.int .i64 2] 3)
              have GA := hG.out.old (.cells #[.int .i64 2] 3)
              obtain ⟨-, -, g2⟩ := hG.out.cells
              have HL := hide hL.out
              clear hK hG hL
              go_wp2_with (at_builtin; refine wpList_append_rd _ rfl _ _ rfl w1.heap.size _ j (ow a b j) rfl hOa (some ⟨wr.heap.size, 0, none⟩) 1 1 [2] rfl hR1 (by omega) hsz ?_)
              intro v' w6 hO6 hg6
              obtain ⟨ad6, cp6, rfl⟩ := slice_form hO6
              have K6 : Keeps (fun k => k = gb ∨ w1.heap.size ≤ k) w1 w6 := KA.trans ⟨hg6.os, hg6.tape, hg6.output, hg6.size, fun i hi hx => hg6.block i hi (fun e => hx (Or.inr (by first | exact (HL.out.lt _ e).1 | exact (HL.out.lt _ e.symm).1)))⟩
              have G6 : Gd w6 gb W H ad j cp := (hg6.block _ GA.lt (fun e => by have h6 : w1.heap.size ≤ gb := (by first | exact (HL.out.lt _ e).1 | exact (HL.out.lt _ e.symm).1); omega)).trans GA
              have HO6 := hide hO6
              have HK6 := hide K6
              have HG6 := hide G6
              obtain ⟨-, -, k2⟩ := G6.cells
              have f2 := G6.frozen 2
              clear hO6 hg6 hR1 hOa KA GA K6 G6 g2 HL hsz
              go_wp2_with fail
              refine ⟨⟨x + 1, j + 1, cp6, ad6, by go_num, by omega, HJ, ?_, ?_, ?_⟩, by simp [intOf]; omega⟩
              · exact hide (HG6.out.setP _ _ _)
              · rw [HS.out, List.map_append]
                exact hide (own_blk HO6.out (fun g hg => by
                  have hgl := (HO6.out.lt g hg).1
                  exact (Keeps.set1 w6 gb 2 _).block _ (HO6.out.lt g hg).2 (by show ¬ g = gb; omega)))
              · exact hide (HK6.out.setCell (p := ⟨gb, 2, none⟩) (Or.inl rfl) _)
            · have a1 : ((x : Int) == (a : Int) - 1) = true := by rw [beq_iff_eq]; omega
              have a2 : ((x : Int) == (a : Int)) = false := by rw [beq_eq_false_iff_ne]; omega
              have b1 : ((y : Int) == (b : Int) - 1) = false := by rw [beq_eq_false_iff_ne]; omega
              have b2 : ((y : Int) == (b : Int)) = true := by rw [beq_iff_eq]; omega
              have HV : Hid (ov a b x y = 1) := hide (by unfold ov; rw [if_pos (by omega)]; rw [if_neg (by omega)])
              rw [HV.out] at HS
              clear hx hy
              have hR1 : Rd (World.alloc wr (.cells #[.int .i64 1] 3)) (some ⟨wr.heap.size, 0, none⟩) 1 1 [1] := Rd.of_blk (Blk.new wr 3 [1] _ rfl) rfl (by decide)
              have hOa := hL.out.alloc (.cells #[.int .i64 1] 3)
              have hsz : w1.heap.size ≤ (World.alloc wr (.cells #[.int .i64 1] 3)).heap.size := by have := hK.out.size; rw [World.size_alloc]; exact Nat.le_succ_of_le this
              have KA := hK.out.alloc (.cells #[.int .i64 1] 3)
              have GA := hG.out.old (.cells #[.int .i64 1] 3)
              obtain ⟨-, -, g2⟩ := hG.out.cells
              have HL := hide hL.out
              clear hK hG hL
              go_wp2_with (at_builtin; refine wpList_append_rd _ rfl _ _ rfl w1.heap.size _ j (ow a b j) rfl hOa (some ⟨wr.heap.size, 0, none⟩) 1 1 [1] rfl hR1 (by omega) hsz ?_)
              intro v' w6 hO6 hg6
              obtain ⟨ad6, cp6, rfl⟩ := slice_form hO6
              have K6 : Keeps (fun k => k = gb ∨ w1.heap.size ≤ k) w1 w6 := KA.trans ⟨hg6.os, hg6.tape, hg6.output, hg6.size, fun i hi hx => hg6.block i hi (fun e => hx (Or.inr (by first | exact (HL.out.lt _ e).1 | exact (HL.out.lt _ e.symm).1)))⟩
              have G6 : Gd w6 gb W H ad j cp := (hg6.block _ GA.lt (fun e => by have h6 : w1.heap.size ≤ gb := (by first | exact (HL.out.lt _ e).1 | exact (HL.out.lt _ e.symm).1); omega)).trans GA
              have HO6 := hide hO6
              have HK6 := hide K6
              have HG6 := hide G6
              obtain ⟨-, -, k2⟩ := G6.cells
              have f2 := G6.frozen 2
              clear hO6 hg6 hR1 hOa KA GA K6 G6 g2 HL hsz
              go_wp2_with fail
              refine ⟨⟨x + 1, j + 1, cp6, ad6, by go_num, by omega, HJ, ?_, ?_, ?_⟩, by simp [intOf]; omega⟩
              · exact hide (HG6.out.setP _ _ _)
              · rw [HS.out, List.map_append]
                exact hide (own_blk HO6.out (fun g hg => by
                  have hgl := (HO6.out.lt g hg).1
                  exact (Keeps.set1 w6 gb 2 _).block _ (HO6.out.lt g hg).2 (by show ¬ g = gb; omega)))
              · exact hide (HK6.out.setCell (p := ⟨gb, 2, none⟩) (Or.inl rfl) _)
            · have a1 : ((x : Int) == (a : Int) - 1) = true := by rw [beq_iff_eq]; omega
              have a2 : ((x : Int) == (a : Int)) = false := by rw [beq_eq_false_iff_ne]; omega
              have b1 : ((y : Int) == (b : Int) - 1) = false := by rw [beq_eq_false_iff_ne]; omega
              have b2 : ((y : Int) == (b : Int)) = false := by rw [beq_eq_false_iff_ne]; omega
              have HV : Hid (ov a b x y = 0) := hide (by unfold ov; rw [if_neg (by omega)])
              rw [HV.out] at HS
              clear hx hy
              have hR1 : Rd (World.alloc wr (.cells #[.int .i64 0] 3)) (some ⟨wr.heap.size, 0, none⟩) 1 1 [0] := Rd.of_blk (Blk.new wr 3 [0] _ rfl) rfl (by decide)
              have hOa := hL.out.alloc (.cells #[.int .i64 0] 3)
              have hsz : w1.heap.size ≤ (World.alloc wr (.cells #[.int .i64 0] 3)).heap.size := by have := hK.out.size; rw [World.size_alloc]; exact Nat.le_succ_of_le this
              have KA := hK.out.alloc (.cells #[.int .i64 0] 3)
              have GA := hG.out.old (.cells #[.int .i64 0] 3)
              obtain ⟨-, -, g2⟩ := hG.out.cells
              have HL := hide hL.out
              clear hK hG hL
              go_wp2_with (at_builtin; refine wpList_append_rd _ rfl _ _ rfl w1.heap.size _ j (ow a b j) rfl hOa (some ⟨wr.heap.size, 0, none⟩) 1 1 [0] rfl hR1 (by omega) hsz ?_)
              intro v' w6 hO6 hg6
              obtain ⟨ad6, cp6, rfl⟩ := slice_form hO6
              have K6 : Keeps (fun k => k = gb ∨ w1.heap.size ≤ k) w1 w6 := KA.trans ⟨hg6.os, hg6.tape, hg6.output, hg6.size, fun i hi hx => hg6.block i hi (fun e => hx (Or.inr (by first | exact (HL.out.lt _ e).1 | exact (HL.out.lt _ e.symm).1)))⟩
              have G6 : Gd w6 gb W H ad j cp := (hg6.block _ GA.lt (fun e => by have h6 : w1.heap.size ≤ gb := (by first | exact (HL.out.lt _ e).1 | exact (HL.out.lt _ e.symm).1); omega)).trans GA
              have HO6 := hide hO6
              have HK6 := hide K6
              have HG6 := hide G6
              obtain ⟨-, -, k2⟩ := G6.cells
              have f2 := G6.frozen 2
              clear hO6 hg6 hR1 hOa KA GA K6 G6 g2 HL hsz
              go_wp2_with fail
              refine ⟨⟨x + 1, j + 1, cp6, ad6, by go_num, by omega, HJ, ?_, ?_, ?_⟩, by simp [intOf]; omega⟩
              · exact hide (HG6.out.setP _ _ _)
              · rw [HS.out, List.map_append]
                exact hide (own_blk HO6.out (fun g hg => by
                  have hgl := (HO6.out.lt g hg).1
                  exact (Keeps.set1 w6 gb 2 _).block _ (HO6.out.lt g hg).2 (by show ¬ g = gb; omega)))
              · exact hide (HK6.out.setCell (p := ⟨gb, 2, none⟩) (Or.inl rfl) _)
          · rcases hy with hy | hy | hy
            · have a1 : ((x : Int) == (a : Int) - 1) = false := by rw [beq_eq_false_iff_ne]; omega
              have a2 : ((x : Int) == (a : Int)) = true := by rw [beq_iff_eq]; omega
              have b1 : ((y : Int) == (b : Int) - 1) = true := by rw [beq_iff_eq]; omega
              have b2 : ((y : Int) == (b : Int)) = false := by rw [beq_eq_false_iff_ne]; omega
              have HV : Hid (ov a b x y = 1) := hide (by unfold ov; rw [if_pos (by omega)]; rw [if_neg (by omega)])
              rw [HV.out] at HS
              clear hx hy
              have hR1 : Rd (World.alloc wr (.cells #[.int .i64 1] 3)) (some ⟨wr.heap.size, 0, none⟩) 1 1 [1] := Rd.of_blk (Blk.new wr 3 [1] _ rfl) rfl (by decide)
              have hOa := hL.out.alloc (.cells #[.int .i64 1] 3)
              have hsz : w1.heap.size ≤ (World.alloc wr (.cells #[.int .i64 1] 3)).heap.size := by have := hK.out.size; rw [World.size_alloc]; exact Nat.le_succ_of_le this
              have KA := hK.out.alloc (.cells #[.int .i64 1] 3)
              have GA := hG.out.old (.cells #[.int .i64 1] 3)
              obtain ⟨-, -, g2⟩ := hG.out.cells
              have HL := hide hL.out
              clear hK hG hL
              go_wp2_with (at_builtin; refine wpList_append_rd _ rfl _ _ rfl w1.heap.size _ j (ow a b j) rfl hOa (some ⟨wr.heap.size, 0, none⟩) 1 1 [1] rfl hR1 (by omega) hsz ?_)
              intro v' w6 hO6 hg6
              obtain ⟨ad6, cp6, rfl⟩ := slice_form hO6
              have K6 : Keeps (fun k => k = gb ∨ w1.heap.size ≤ k) w1 w6 := KA.trans ⟨hg6.os, hg6.tape, hg6.output, hg6.size, fun i hi hx => hg6.block i hi (fun e => hx (Or.inr (by first | exact (HL.out.lt _ e).1 | exact (HL.out.lt _ e.symm).1)))⟩
              have G6 : Gd w6 gb W H ad j cp := (hg6.block _ GA.lt (fun e => by have h6 : w1.heap.size ≤ gb := (by first | exact (HL.out.lt _ e).1 | exact (HL.out.lt _ e.symm).1); omega)).trans GA
              have HO6 := hide hO6
              have HK6 := hide K6
              have HG6 := hide G6
              obtain ⟨-, -, k2⟩ := G6.cells
              have f2 := G6.frozen 2
              clear hO6 hg6 hR1 hOa KA GA K6 G6 g2 HL hsz
              go_wp2_with fail
              refine ⟨⟨x + 1, j + 1, cp6, ad6, by go_num, by omega, HJ, ?_, ?_, ?_⟩, by simp [intOf]; omega⟩
              · exact hide (HG6.out.setP _ _ _)
              · rw [HS.out, List.map_append]
                exact hide (own_blk HO6.out (fun g hg => by
                  have hgl := (HO6.out.lt g hg).1
                  exact (Keeps.set1 w6 gb 2 _).block _ (HO6.out.lt g hg).2 (by show ¬ g = gb; omega)))
              · exact hide (HK6.out.setCell (p := ⟨gb, 2, none⟩) (Or.inl rfl) _)
            · have a1 : ((x : Int) == (a : Int) - 1) = false := by rw [beq_eq_false_iff_ne]; omega
              have a2 : ((x : Int) == (a : Int)) = true := by rw [beq_iff_eq]; omega
              have b1 : ((y : Int) == (b : Int) - 1) = false := by rw [beq_eq_false_iff_ne]; omega
              have b2 : ((y : Int) == (b : Int)) = true := by rw [beq_iff_eq]; omega
              have HV : Hid (ov a b x y = 2) := hide (by unfold ov; rw [if_pos (by omega)]; rw [if_pos (by omega)])
              rw [HV.out] at HS
              clear hx hy
              have hR1 : Rd (World.alloc wr (.cells #[.int .i64 2] 3)) (some ⟨wr.heap.size, 0, none⟩) 1 1 [2] := Rd.of_blk (Blk.new wr 3 [2] _ rfl) rfl (by decide)
              have hOa := hL.out.alloc (.cells #[.int .i64 2] 3)
              have hsz : w1.heap.size ≤ (World.alloc wr (.cells #[.int .i64 2] 3)).heap.size := by have := hK.out.size; rw [World.size_alloc]; exact Nat.le_succ_of_le this
              have KA := hK.out.alloc (.cells #[.int .i64 2] 3)
              have GA := hG.out.old (.cells #[.int .i64 2] 3)
              obtain ⟨-, -, g2⟩ := hG.out.cells
              have HL := hide hL.out
              clear hK hG hL
              go_wp2_with (at_builtin; refine wpList_append_rd _ rfl _ _ rfl w1.heap.size _ j (ow a b j) rfl hOa (some ⟨wr.heap.size, 0, none⟩) 1 1 [2] rfl hR1 (by omega) hsz ?_)
              intro v' w6 hO6 hg6
              obtain ⟨ad6, cp6, rfl⟩ := slice_form hO6
              have K6 : Keeps (fun k => k = gb ∨ w1.heap.size ≤ k) w1 w6 := KA.trans ⟨hg6.os, hg6.tape, hg6.output, hg6.size, fun i hi hx => hg6.block i hi (fun e => hx (Or.inr (by first | exact (HL.out.lt _ e).1 | exact (HL.out.lt _ e.symm).1)))⟩
              have G6 : Gd w6 gb W H ad j cp := (hg6.block _ GA.lt (fun e => by have h6 : w1.heap.size ≤ gb := (by first | exact (HL.out.lt _ e).1 | exact (HL.out.lt _ e.symm).1); omega)).trans GA
              have HO6 := hide hO6
              have HK6 := hide K6
              have HG6 := hide G6
              obtain ⟨-, -, k2⟩ := G6.cells
              have f2 := G6.frozen 2
              clear hO6 hg6 hR1 hOa KA GA K6 G6 g2 HL hsz
              go_wp2_with fail
              refine ⟨⟨x + 1, j + 1, cp6, ad6, by go_num, by omega, HJ, ?_, ?_, ?_⟩, by simp [intOf]; omega⟩
              · exact hide (HG6.out.setP _ _ _)
              · rw [HS.out, List.map_append]
                exact hide (own_blk HO6.out (fun g hg => by
                  have hgl := (HO6.out.lt g hg).1
                  exact (Keeps.set1 w6 gb 2 _).block _ (HO6.out.lt g hg).2 (by show ¬ g = gb; omega)))
              · exact hide (HK6.out.setCell (p := ⟨gb, 2, none⟩) (Or.inl rfl) _)
            · have a1 : ((x : Int) == (a : Int) - 1) = false := by rw [beq_eq_false_iff_ne]; omega
              have a2 : ((x : Int) == (a : Int)) = true := by rw [beq_iff_eq]; omega
              have b1 : ((y : Int) == (b : Int) - 1) = false := by rw [beq_eq_false_iff_ne]; omega
              have b2 : ((y : Int) == (b : Int)) = false := by rw [beq_eq_false_iff_ne]; omega
              have HV : Hid (ov a b x y = 0) := hide (by unfold ov; rw [if_neg (by omega)])
              rw [HV.out] at HS
              clear hx hy
              have hR1 : Rd (World.alloc wr (.cells #[.int .i64 0] 3)) (some ⟨wr.heap.size, 0, none⟩) 1 1 [0] := Rd.of_blk (Blk.new wr 3 [0] _ rfl) rfl (by decide)
              have hOa := hL.out.alloc (.cells #[.int .i64 0] 3)
              have hsz : w1.heap.size ≤ (World.alloc wr (.cells #[.int .i64 0] 3)).heap.size := by have := hK.out.size; rw [World.size_alloc]; exact Nat.le_succ_of_le this
              have KA := hK.out.alloc (.cells #[.int .i64 0] 3)
              have GA := hG.out.old (.cells #[.int .i64 0] 3)
              obtain ⟨-, -, g2⟩ := hG.out.cells
              have HL := hide hL.out
              clear hK hG hL
              go_wp2_with (at_builtin; refine wpList_append_rd _ rfl _ _ rfl w1.heap.size _ j (ow a b j) rfl hOa (some ⟨wr.heap.size, 0, none⟩) 1 1 [0] rfl hR1 (by omega) hsz ?_)
              intro v' w6 hO6 hg6
              obtain ⟨ad6, cp6, rfl⟩ := slice_form hO6
              have K6 : Keeps (fun k => k = gb ∨ w1.heap.size ≤ k) w1 w6 := KA.trans ⟨hg6.os, hg6.tape, hg6.output, hg6.size, fun i hi hx => hg6.block i hi (fun e => hx (Or.inr (by first | exact (HL.out.lt _ e).1 | exact (HL.out.lt _ e.symm).1)))⟩
              have G6 : Gd w6 gb W H ad j cp := (hg6.block _ GA.lt (fun e => by have h6 : w1.heap.size ≤ gb := (by first | exact (HL.out.lt _ e).1 | exact (HL.out.lt _ e.symm).1); omega)).trans GA
              have HO6 := hide hO6
              have HK6 := hide K6
              have HG6 := hide G6
              obtain ⟨-, -, k2⟩ := G6.cells
              have f2 := G6.frozen 2
              clear hO6 hg6 hR1 hOa KA GA K6 G6 g2 HL hsz
              go_wp2_with fail
              refine ⟨⟨x + 1, j + 1, cp6, ad6, by go_num, by omega, HJ, ?_, ?_, ?_⟩, by simp [intOf]; omega⟩
              · exact hide (HG6.out.setP _ _ _)
              · rw [HS.out, List.map_append]
                exact hide (own_blk HO6.out (fun g hg => by
                  have hgl := (HO6.out.lt g hg).1
                  exact (Keeps.set1 w6 gb 2 _).block _ (HO6.out.lt g hg).2 (by show ¬ g = gb; omega)))
              · exact hide (HK6.out.setCell (p := ⟨gb, 2, none⟩) (Or.inl rfl) _)
          · rcases hy with hy | hy | hy
            · have a1 : ((x : Int) == (a : Int) - 1) = false := by rw [beq_eq_false_iff_ne]; omega
              have a2 : ((x : Int) == (a : Int)) = false := by rw [beq_eq_false_iff_ne]; omega
              have b1 : ((y : Int) == (b : Int) - 1) = true := by rw [beq_iff_eq]; omega
              have b2 : ((y : Int) == (b : Int)) = false := by rw [beq_eq_false_iff_ne]; omega
              have HV : Hid (ov a b x y = 0) := hide (by unfold ov; rw [if_neg (by omega)])
              rw [HV.out] at HS
              clear hx hy
              have hR1 : Rd (World.alloc wr (.cells #[.int .i64 0] 3)) (some ⟨wr.heap.size, 0, none⟩) 1 1 [0] := Rd.of_blk (Blk.new wr 3 [0] _ rfl) rfl (by decide)
              have hOa := hL.out.alloc (.cells #[.int .i64 0] 3)
              have hsz : w1.heap.size ≤ (World.alloc wr (.cells #[.int .i64 0] 3)).heap.size := by have := hK.out.size; rw [World.size_alloc]; exact Nat.le_succ_of_le this
              have KA := hK.out.alloc (.cells #[.int .i64 0] 3)
              have GA := hG.out.old (.cells #[.int .i64 0] 3)
              obtain ⟨-, -, g2⟩ := hG.out.cells
              have HL := hide hL.out
              clear hK hG hL
              go_wp2_with (at_builtin; refine wpList_append_rd _ rfl _ _ rfl w1.heap.size _ j (ow a b j) rfl hOa (some ⟨wr.heap.size, 0, none⟩) 1 1 [0] rfl hR1 (by omega) hsz ?_)
              intro v' w6 hO6 hg6
              obtain ⟨ad6, cp6, rfl⟩ := slice_form hO6
              have K6 : Keeps (fun k => k = gb ∨ w1.heap.size ≤ k) w1 w6 := KA.trans ⟨hg6.os, hg6.tape, hg6.output, hg6.size, fun i hi hx => hg6.block i hi (fun e => hx (Or.inr (by first | exact (HL.out.lt _ e).1 | exact (HL.out.lt _ e.symm).1)))⟩
              have G6 : Gd w6 gb W H ad j cp := (hg6.block _ GA.lt (fun e => by have h6 : w1.heap.size ≤ gb := (by first | exact (HL.out.lt _ e).1 | exact (HL.out.lt _ e.symm).1); omega)).trans GA
              have HO6 := hide hO6
              have HK6 := hide K6
              have HG6 := hide G6
              obtain ⟨-, -, k2⟩ := G6.cells
              have f2 := G6.frozen 2
              clear hO6 hg6 hR1 hOa KA GA K6 G6 g2 HL hsz
              go_wp2_with fail
              refine ⟨⟨x + 1, j + 1, cp6, ad6, by go_num, by omega, HJ, ?_, ?_, ?_⟩, by simp [intOf]; omega⟩
              · exact hide (HG6.out.setP _ _ _)
              · rw [HS.out, List.map_append]
                exact hide (own_blk HO6.out (fun g hg => by
                  have hgl := (HO6.out.lt g hg).1
                  exact (Keeps.set1 w6 gb 2 _).block _ (HO6.out.lt g hg).2 (by show ¬ g = gb; omega)))
              · exact hide (HK6.out.setCell (p := ⟨gb, 2, none⟩) (Or.inl rfl) _)
            · have a1 : ((x : Int) == (a : Int) - 1) = false := by rw [beq_eq_false_iff_ne]; omega
              have a2 : ((x : Int) == (a : Int)) = false := by rw [beq_eq_false_iff_ne]; omega
              have b1 : ((y : Int) == (b : Int) - 1) = false := by rw [beq_eq_false_iff_ne]; omega
              have b2 : ((y : Int) == (b : Int)) = true := by rw [beq_iff_eq]; omega
              have HV : Hid (ov a b x y = 0) := hide (by unfold ov; rw [if_neg (by omega)])
              rw [HV.out] at HS
              clear hx hy
              have hR1 : Rd (World.alloc wr (.cells #[.int .i64 0] 3)) (some ⟨wr.heap.size, 0, none⟩) 1 1 [0] := Rd.of_blk (Blk.new wr 3 [0] _ rfl) rfl (by decide)
              have hOa := hL.out.alloc (.cells #[.int .i64 0] 3)
              have hsz : w1.heap.size ≤ (World.alloc wr (.cells #[.int .i64 0] 3)).heap.size := by have := hK.out.size; rw [World.size_alloc]; exact Nat.le_succ_of_le this
              have KA := hK.out.alloc (.cells #[.int .i64 0] 3)
              have GA := hG.out.old (.cells #[.int .i64 0] 3)
              obtain ⟨-, -, g2⟩ := hG.out.cells
              have HL := hide hL.out
              clear hK hG hL
              go_wp2_with (at_builtin; refine wpList_append_rd _ rfl _ _ rfl w1.heap.size _ j (ow a b j) rfl hOa (some ⟨wr.heap.size, 0, none⟩) 1 1 [0] rfl hR1 (by omega) hsz ?_)
              intro v' w6 hO6 hg6
              obtain ⟨ad6, cp6, rfl⟩ := slice_form hO6
              have K6 : Keeps (fun k => k = gb ∨ w1.heap.size ≤ k) w1 w6 := KA.trans ⟨hg6.os, hg6.tape, hg6.output, hg6.size, fun i hi hx => hg6.block i hi (fun e => hx (Or.inr (by first | exact (HL.out.lt _ e).1 | exact (HL.out.lt _ e.symm).1)))⟩
              have G6 : Gd w6 gb W H ad j cp := (hg6.block _ GA.lt (fun e => by have h6 : w1.heap.size ≤ gb := (by first | exact (HL.out.lt _ e).1 | exact (HL.out.lt _ e.symm).1); omega)).trans GA
              have HO6 := hide hO6
              have HK6 := hide K6
              have HG6 := hide G6
              obtain ⟨-, -, k2⟩ := G6.cells
              have f2 := G6.frozen 2
              clear hO6 hg6 hR1 hOa KA GA K6 G6 g2 HL hsz
              go_wp2_with fail
              refine ⟨⟨x + 1, j + 1, cp6, ad6, by go_num, by omega, HJ, ?_, ?_, ?_⟩, by simp [intOf]; omega⟩
              · exact hide (HG6.out.setP _ _ _)
              · rw [HS.out, List.map_append]
                exact hide (own_blk HO6.out (fun g hg => by
                  have hgl := (HO6.out.lt g hg).1
                  exact (Keeps.set1 w6 gb 2 _).block _ (HO6.out.lt g hg).2 (by show ¬ g = gb; omega)))
              · exact hide (HK6.out.setCell (p := ⟨gb, 2, none⟩) (Or.inl rfl) _)
            · have a1 : ((x : Int) == (a : Int) - 1) = false := by rw [beq_eq_false_iff_ne]; omega
              have a2 : ((x : Int) == (a : Int)) = false := by rw [beq_eq_false_iff_ne]; omega
              have b1 : ((y : Int) == (b : Int) - 1) = false := by rw [beq_eq_false_iff_ne]; omega
              have b2 : ((y : Int) == (b : Int)) = false := by rw [beq_eq_false_iff_ne]; omega
              have HV : Hid (ov a b x y = 0) := hide (by unfold ov; rw [if_neg (by omega)])
              rw [HV.out] at HS
              clear hx hy
              have hR1 : Rd (World.alloc wr (.cells #[.int .i64 0] 3)) (some ⟨wr.heap.size, 0, none⟩) 1 1 [0] := Rd.of_blk (Blk.new wr 3 [0] _ rfl) rfl (by decide)
              have hOa := hL.out.alloc (.cells #[.int .i64 0] 3)
              have hsz : w1.heap.size ≤ (World.alloc wr (.cells #[.int .i64 0] 3)).heap.size := by have := hK.out.size; rw [World.size_alloc]; exact Nat.le_succ_of_le this
              have KA := hK.out.alloc (.cells #[.int .i64 0] 3)
              have GA := hG.out.old (.cells #[.int .i64 0] 3)
              obtain ⟨-, -, g2⟩ := hG.out.cells
              have HL := hide hL.out
              clear hK hG hL
              go_wp2_with (at_builtin; refine wpList_append_rd _ rfl _ _ rfl w1.heap.size _ j (ow a b j) rfl hOa (some ⟨wr.heap.size, 0, none⟩) 1 1 [0] rfl hR1 (by omega) hsz ?_)
              intro v' w6 hO6 hg6
              obtain ⟨ad6, cp6, rfl⟩ := slice_form hO6
              have K6 : Keeps (fun k => k = gb ∨ w1.heap.size ≤ k) w1 w6 := KA.trans ⟨hg6.os, hg6.tape, hg6.output, hg6.size, fun i hi hx => hg6.block i hi (fun e => hx (Or.inr (by first | exact (HL.out.lt _ e).1 | exact (HL.out.lt _ e.symm).1)))⟩
              have G6 : Gd w6 gb W H ad j cp := (hg6.block _ GA.lt (fun e => by have h6 : w1.heap.size ≤ gb := (by first | exact (HL.out.lt _ e).1 | exact (HL.out.lt _ e.symm).1); omega)).trans GA
              have HO6 := hide hO6
              have HK6 := hide K6
              have HG6 := hide G6
              obtain ⟨-, -, k2⟩ := G6.cells
              have f2 := G6.frozen 2
              clear hO6 hg6 hR1 hOa KA GA K6 G6 g2 HL hsz
              go_wp2_with fail
              refine ⟨⟨x + 1, j + 1, cp6, ad6, by go_num, by omega, HJ, ?_, ?_, ?_⟩, by simp [intOf]; omega⟩
              · exact hide (HG6.out.setP _ _ _)
              · rw [HS.out, List.map_append]
                exact hide (own_blk HO6.out (fun g hg => by
                  have hgl := (HO6.out.lt g hg).1
                  exact (Keeps.set1 w6 gb 2 _).block _ (HO6.out.lt g hg).2 (by show ¬ g = gb; omega)))
              · exact hide (HK6.out.setCell (p := ⟨gb, 2, none⟩) (Or.inl rfl) _)
        · have hltx' : ¬ (x : Int) < (W : Int) := by omega
          have HJ : Hid (j = (y + 1) * W) := hide (by rw [hj.out, HMS.out, show x = W by omega])
          go_wp2_with fail
          exact ⟨⟨y + 1, j, cp, ad, by go_num, by omega, HJ, hG, hL, hK⟩, by simp [intOf]; omega⟩
    · have hlt' : ¬ (y : Int) < (H : Int) := by omega
      have HJ : Hid (j0 = n) := hide (by rw [hj0.out, show y = H by omega]; exact HNN.out)
      obtain rfl := HJ.out
      have G5 := hG0.out
      have Z5 := HZ1.out.keeps hK0.out (by show ¬ (w.heap.size = gb ∨ w1.heap.size ≤ w.heap.size); omega)
      go_wp2_with (first
        | refine wpList_load_gd rfl (.tmp 5) rfl gb rfl G5 ?_
        | (refine wpList_store_gd rfl (.tmp 4) (.tmp 61) rfl w.heap.size rfl rfl Z5 ?_; intro w7 k7 kk7))
      refine bodyPost_ret (results_gd1 rfl _ _ w.heap.size rfl k7) rfl ⟨ad0, cp0, rfl, ?_, ?_⟩
      · rw [← HALL.out]
        exact Rd.of_own (own_blk hL0.out (fun g hg => by
          have hgl := (hL0.out.lt g hg).1
          exact kk7.block _ (hL0.out.lt g hg).2 (by show ¬ g = w.heap.size; omega)))
      · exact HB1.out.trans (((hK0.out.mono (Y := fun q => w.heap.size ≤ q) (fun q _ e => by omega)).trans (kk7.mono (fun q _ e => by omega))).below (B := w.heap.size) HB1.out.size (fun q hq e => by omega))

end Go.Proofs.YtkmghlmniahgbaaDoor
