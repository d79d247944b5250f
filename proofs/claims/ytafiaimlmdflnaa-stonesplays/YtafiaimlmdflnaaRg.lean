/-
  Regions of a board, by their least places, one by one, as Regions hands them out. No conditions beyond those that each theorem bears.
-/
import Derived.Test.YtafiaimlmdflnaaSp
import Derived.Test.YtafiaimlmdflnaaFl
import Derived.Test.YtafiaimlmdflnaaRm
namespace Go.Proofs.Ytafiaimlmdflnaa
open Go.RowKit Go.Shelf

theorem least_at {P : Nat → Prop} (h : ∃ q, P q) : ∃ q, P q ∧ ∀ r, P r → q ≤ r := by
  obtain ⟨q, hq⟩ := h
  induction q using Nat.strongRecOn with
  | _ q ih =>
    by_cases hm : ∃ r, r < q ∧ P r
    · obtain ⟨r, h1, h2⟩ := hm
      exact ih r h1 h2
    · exact ⟨q, hq, fun r hr => Nat.le_of_not_lt fun h => hm ⟨r, h, hr⟩⟩

/-- The least place of a region. -/
def ldr (N : Nat) (nb : Nat → List Nat) (m : Nat → Prop) (p : Nat) : Prop := m p ∧ ∀ q, Wk N nb m p q → p ≤ q

open Classical in
/-- The regions whose least places are among the first ones. -/
noncomputable def rgsU (N : Nat) (nb : Nat → List Nat) (m : Nat → Prop) (j : Nat) : List (List Nat) := ((List.range j).filter fun p => decide (ldr N nb m p)).map (spr N nb m)
/-- All regions. -/
noncomputable def rgs (N : Nat) (nb : Nat → List Nat) (m : Nat → Prop) : List (List Nat) := rgsU N nb m N

section
variable {N : Nat} {nb : Nat → List Nat} {m : Nat → Prop} {j : Nat}
theorem rgsU_zero : rgsU N nb m 0 = [] := rfl
theorem rgsU_yes (h : ldr N nb m j) : rgsU N nb m (j + 1) = rgsU N nb m j ++ [spr N nb m j] := by
  unfold rgsU; rw [List.range_succ, List.filter_append, List.map_append]; simp [h]
theorem rgsU_no (h : ¬ ldr N nb m j) : rgsU N nb m (j + 1) = rgsU N nb m j := by
  unfold rgsU; rw [List.range_succ, List.filter_append, List.map_append]; simp [h]
theorem rgsU_pre {d : Nat} : ∃ t, rgsU N nb m j ++ t = rgsU N nb m (j + d) := by
  induction d with
  | zero => exact ⟨[], by simp⟩
  | succ d ih =>
    obtain ⟨t, ht⟩ := ih
    by_cases h : ldr N nb m (j + d)
    · exact ⟨t ++ [spr N nb m (j + d)], by rw [← List.append_assoc, ht, ← Nat.add_assoc, rgsU_yes h]⟩
    · exact ⟨t, by rw [ht, ← Nat.add_assoc, rgsU_no h]⟩
theorem rgsU_len (j : Nat) : (rgsU N nb m j).length ≤ j := by
  unfold rgsU
  rw [List.length_map]
  exact Nat.le_trans (List.length_filter_le _ _) (by simp)
theorem mem_rgsU {L : List Nat} : L ∈ rgsU N nb m j ↔ ∃ p, p < j ∧ ldr N nb m p ∧ L = spr N nb m p := by
  unfold rgsU
  rw [List.mem_map]
  constructor
  · rintro ⟨p, hp, rfl⟩
    rw [List.mem_filter, List.mem_range] at hp
    exact ⟨p, hp.1, by simpa using hp.2, rfl⟩
  · rintro ⟨p, h1, h2, rfl⟩
    exact ⟨p, by rw [List.mem_filter, List.mem_range]; exact ⟨h1, by simpa using h2⟩, rfl⟩
theorem mem_flat {q : Nat} : q ∈ (rgsU N nb m j).flatten ↔ ∃ p, p < j ∧ ldr N nb m p ∧ Wk N nb m p q := by
  rw [List.mem_flatten]
  constructor
  · rintro ⟨L, h1, h2⟩
    obtain ⟨p, a, b, rfl⟩ := mem_rgsU.1 h1
    exact ⟨p, a, b, mem_spr.1 h2⟩
  · rintro ⟨p, a, b, h⟩
    exact ⟨_, mem_rgsU.2 ⟨p, a, b, rfl⟩, mem_spr.2 h⟩
/-- Where nothing has been told of a place that may be gone over, it is the least of its region. -/
theorem told_iff (hs : ∀ p q, p < N → q ∈ nb p → p ∈ nb q) (hj : j < N) (hm : m j) : j ∈ (rgsU N nb m j).flatten ↔ ¬ ldr N nb m j := by
  rw [mem_flat]
  constructor
  · rintro ⟨p, h1, h2, h3⟩ hl
    have := hl.2 p (h3.symm hs)
    omega
  · intro hl
    obtain ⟨p, hp, hmin⟩ := least_at ⟨j, (Wk.refl hj hm : Wk N nb m j j)⟩
    refine ⟨p, ?_, ⟨hp.right, fun q hq => hmin q (hp.trans hq)⟩, hp.symm hs⟩
    have := hmin j (.refl hj hm)
    by_cases e : p = j
    · subst e
      exact absurd ⟨hm, hmin⟩ hl
    · omega
/-- Beside a region nothing has been told that is not of it. -/
theorem beside_told (hs : ∀ p q, p < N → q ∈ nb p → p ∈ nb q) (hb : ∀ p q, q ∈ nb p → q < N) (hl : ldr N nb m j) {x q : Nat} (hx : Wk N nb m j x) (hq : q ∈ nb x) : q ∉ (rgsU N nb m j).flatten := by
  rw [mem_flat]
  rintro ⟨p, h1, h2, h3⟩
  have h4 : Wk N nb m j q := .step hx hq (hb _ _ hq) h3.right
  have := hl.2 p (h4.trans (h3.symm hs))
  omega
end

/-- What is handed out for a region: a list in memory from lo on. -/
def GgG (lo : Nat) (x : List Nat) (args : Array Value) (W : World) : Prop := ∃ a c, args = #[.slice a x.length c] ∧ Ir (fun k => lo ≤ k) W a x.length c (toI x)

/-- What it has captured. -/
structure RgR (gb mb sb db W H : Nat) (a : Option Addr) (N c f : Nat) (lb : Array Value) (lo : Nat) (V : World) : Prop where
  g : Gd V gb W H a N c
  m : V.cell? ⟨mb, 0, none⟩ = some (.func (.func f) #[] lb)
  s : V.cell? ⟨sb, 0, none⟩ = some (.slice (some ⟨db, 0, none⟩) 4 4)
  d : Blk V db 37 D4
  l : lo ≤ V.heap.size + 1

def RgT (gb mb sb db : Nat) (k : Nat) : Prop := k = gb ∨ k = mb ∨ k = sb ∨ k = db

section
variable {gb mb sb db W H : Nat} {a : Option Addr} {N c f : Nat} {lb : Array Value} {lo : Nat} {X : Nat → Prop} {V V' : World}
theorem RgR.keeps (h : RgR gb mb sb db W H a N c f lb lo V) (hk : Keeps X V V') (hX : ∀ k, RgT gb mb sb db k → ¬ X k) : RgR gb mb sb db W H a N c f lb lo V' :=
  ⟨h.g.keeps hk (hX gb (.inl rfl)), hk.cell h.m (hX mb (.inr (.inl rfl))), hk.cell h.s (hX sb (.inr (.inr (.inl rfl)))), h.d.keeps hk (hX db (.inr (.inr (.inr rfl)))), Nat.le_trans h.l (by have := hk.size; omega)⟩
theorem RgR.lt (h : RgR gb mb sb db W H a N c f lb lo V) : ∀ k, RgT gb mb sb db k → k < V.heap.size := by
  rintro k (rfl | rfl | rfl | rfl)
  · exact h.g.lt
  · exact World.block_lt_of_cell? V _ h.m
  · exact World.block_lt_of_cell? V _ h.s
  · exact h.d.lt
end

/-- What it asks of the world: places of which nothing has been told are told rightly. -/
def RgM (f : Nat) (lb : Array Value) (N : Nat) (m : Nat → Prop) [DecidablePred m] (s : List (List Nat)) (A : World) : Prop :=
  ∀ q V, q < N → q ∉ s.flatten → Below A.heap.size A V → Calls Try.prog f (#[.int .i64 (q : Nat)] ++ lb) V fun e w' => e = .returned (.bool (decide (m q))) ∧ Below V.heap.size V w'

theorem Regions_any (W H : Nat) (a : Option Addr) (N c db f : Nat) (lb : Array Value) (s : Value) (hs : s = .slice (some ⟨db, 0, none⟩) 4 4) (w : World) : Calls Try.prog 80 #[.agg (gdA W H a N c), .func (.func f) #[] lb, s] w fun e w' => e = .returned (.func (.func 100) #[] #[.pointer (some ⟨w.heap.size, 0, none⟩), .pointer (some ⟨w.heap.size + 1, 0, none⟩), .pointer (some ⟨w.heap.size + 2, 0, none⟩)]) ∧ w' = ((w.alloc (.cells (gdA W H a N c) 24)).alloc (.cells #[.func (.func f) #[] lb] 74)).alloc (.cells #[s] 77) := by
  subst hs
  go_enter Try.func80, Try.ntmps80
  go_wp2
  go_ret
  exact ⟨rfl, rfl⟩

theorem RgR.new (W H : Nat) (a : Option Addr) (N c db f : Nat) (lb : Array Value) (lo : Nat) (w : World) (hD : Blk w db 37 D4) (hlo : lo ≤ w.heap.size + 4) : RgR w.heap.size (w.heap.size + 1) (w.heap.size + 2) db W H a N c f lb lo (((w.alloc (.cells (gdA W H a N c) 24)).alloc (.cells #[.func (.func f) #[] lb] 74)).alloc (.cells #[.slice (some ⟨db, 0, none⟩) 4 4] 77)) := by
  refine ⟨((Gd.new w W H a N c).old _).old _, ?_, ?_, ((hD.old _).old _).old _, by simp; omega⟩
  · have := new_cell (w.alloc (.cells (gdA W H a N c) 24)) (.func (.func f) #[] lb) 74
    rw [World.size_alloc] at this
    exact old_cell _ this
  · have := new_cell ((w.alloc (.cells (gdA W H a N c) 24)).alloc (.cells #[.func (.func f) #[] lb] 74)) (.slice (some ⟨db, 0, none⟩) 4 4) 77
    rwa [World.size_alloc, World.size_alloc] at this

attribute [local irreducible] mtL spr nb4 rgsU D4
attribute [local go_sem] Oper.semAt_some wide_fn wide_fn0 wide_depth

set_option maxRecDepth 100000 in
set_option maxHeartbeats 16000000 in
theorem regions1_seq (gb mb sb db W H : Nat) (a : Option Addr) (N c f : Nat) (lb : Array Value) (lo : Nat) (m : Nat → Prop) [DecidablePred m] (hW : 1 ≤ W ∧ W ≤ 10) (hH : 1 ≤ H ∧ H ≤ 10) (hN : W * H = N) (en : ∀ args w, (callFunc f args).run Try.prog w = .ok (.enter f args) w) :
    SeqM Try.prog 100 #[.pointer (some ⟨gb, 0, none⟩), .pointer (some ⟨mb, 0, none⟩), .pointer (some ⟨sb, 0, none⟩)] (GgG lo) (rgs N (nb4 W H) m) (RgR gb mb sb db W H a N c f lb lo) (RgT gb mb sb db) 1 (RgM f lb N m) := by
  intro l X J Jx V hR hX hJ hJx hM hY h0
  have hN100 : N ≤ 100 := by rw [← hN]; exact Nat.mul_le_mul hW.2 hH.2
  have hN1 : 0 < N := by rw [← hN]; exact Nat.mul_pos (by omega) (by omega)
  have HSY : Hid (∀ p q, p < N → q ∈ nb4 W H p → p ∈ nb4 W H q) := hide (fun p q hp hq => nb4_symm (by rw [hN]; exact hp) hq)
  have HBN : Hid (∀ p q, q ∈ nb4 W H p → q < N) := hide (fun p q hq => by rw [← hN]; exact nb4_lt hq)
  have HLT := hide hR.lt
  have HM := hide hM
  have HRK : Hid (∀ A B, RgR gb mb sb db W H a N c f lb lo A → Keeps X A B → RgR gb mb sb db W H a N c f lb lo B) := hide (fun A B hA hk => hA.keeps hk (fun k hk hx => (hX k hx).1 hk))
  have HRO : Hid (∀ A B, RgR gb mb sb db W H a N c f lb lo A → Keeps (fun k => k = V.heap.size) A B → RgR gb mb sb db W H a N c f lb lo B) := hide (fun A B hA hk => hA.keeps hk (fun k hk e => by have := HLT.out k hk; omega))
  have HRE : Hid (∀ A B, RgR gb mb sb db W H a N c f lb lo A → Below A.heap.size A B → RgR gb mb sb db W H a N c f lb lo B) := hide (fun A B hA hk => hA.keeps (X := fun _ => False) (Keeps.of_all hk) (fun _ _ h => h))
  have HJK : Hid (∀ s A B, J s A → Keeps (fun k => k = V.heap.size) A B → J s B) := hide (fun s A B hs hk => hJ s A B hs (hk.mono (fun k _ e => by omega)))
  have HJE : Hid (∀ s A B, J s A → Below A.heap.size A B → J s B) := hide (fun s A B hs hk => hJ s A B hs (Keeps.of_all hk))
  have HXO : Hid (¬ X V.heap.size) := hide (fun h => (hX _ h).2 ⟨Nat.le_refl _, by omega⟩)
  have HY := hide hY
  have HGE : Hid (rgs N (nb4 W H) m = rgsU N (nb4 W H) m N) := hide (by unfold rgs; rfl)
  have HNN := hide hN
  have HLO := hide hR.l
  obtain ⟨W0, hW0⟩ : ∃ W0, V.alloc (.cells Try.zeroCells102 102) = W0 := ⟨_, rfl⟩
  obtain ⟨s0, z0, B0⟩ := alloc_facts hW0
  have V0 : Vb W0 V.heap.size 102 (mtL []) := by
    have : W0.heap[V.heap.size]? = _ := z0
    rw [mtL_zero] at this
    exact this
  have HV0 := hide V0
  have HR0 := hide (HRE.out _ _ hR B0)
  have HJ0 : Hid (J (rgsU N (nb4 W H) m 0) W0) := hide (by rw [rgsU_zero]; exact HJE.out _ _ _ h0 B0)
  have HS0 : Hid (V.heap.size + 1 ≤ W0.heap.size) := hide (by omega)
  have g2 := HR0.out.g.cells.2.2
  rw [HGE.out] at HY ⊢
  clear hR hY hX h0 hJ hJx hM HGE z0 B0 V0 s0
  refine callsIn_of_wp Try.func100 rfl trivial ?_ rfl
  simp only [Try.ntmps100, List.size_toArray, List.length_cons, List.length_nil, Nat.reduceAdd, Nat.reduceSub, Array.replicate_succ, Array.replicate_zero, List.push_toArray, List.append_toArray, List.nil_append, List.cons_append]
  refine wpIn_wide.2 ?_
  go_upto_region 1 with fail
  clear hW0
  go_wp2_with fail
  clear g2
  go_loopw [13] (fun v wr => ∃ (j : Nat) (T : List Nat), v = .int .i64 j ∧ j ≤ N ∧ Hid (∀ q, q ∈ T ↔ q ∈ (rgsU N (nb4 W H) m j).flatten) ∧ Hid (Vb wr V.heap.size 102 (mtL T)) ∧ Hid (J (rgsU N (nb4 W H) m j) wr) ∧ Hid (RgR gb mb sb db W H a N c f lb lo wr) ∧ Hid (V.heap.size + 1 ≤ wr.heap.size)) (fun v _ => N - (intOf v).toNat)
  case atStart => exact ⟨0, [], rfl, by omega, hide (fun q => by rw [rgsU_zero]; rfl), HV0, HJ0, HR0, HS0⟩
  case round =>
    obtain ⟨j, T, rfl, hjN, hTl, hV, hJr, hRr, hSr⟩ := hrel
    clear HJ0 HR0 HV0 HS0
    by_cases hj : j < N
    · have hj' : (j : Int) < (N : Int) := by omega
      have hj100 : (j : Int) < 100 := by omega
      have cm := hRr.out.m
      have ct := hV.out.cell (mtL_at (G := T) (show j < 100 by omega))
      by_cases htd : j ∈ T
      · rw [decide_eq_true htd] at ct
        have HNO : Hid (¬ ldr N (nb4 W H) m j) := hide (by
          have h1 := (hTl.out j).1 htd
          obtain ⟨p, _, _, h3⟩ := mem_flat.1 h1
          exact (told_iff HSY.out hj h3.right).1 h1)
        clear htd
        go_wp2_with fail
        exact ⟨⟨j + 1, T, rfl, by omega, hide (by rw [rgsU_no HNO.out]; exact hTl.out), hV, hide (by rw [rgsU_no HNO.out]; exact hJr.out), hRr, hSr⟩, by simp only [intOf]; omega⟩
      · rw [decide_eq_false htd] at ct
        have HQ := hide (HM.out _ _ hJr.out j wr hj (fun h => htd ((hTl.out j).2 h)) (Below.refl _ _))
        by_cases hmj : m j
        rotate_left
        · rw [decide_eq_false hmj] at HQ
          have HNO : Hid (¬ ldr N (nb4 W H) m j) := hide (fun h => hmj h.1)
          clear htd hmj
          go_wp2_with fail
          refine HQ.out.mono ?_
          rintro e W2 ⟨rfl, hb2⟩
          have HR2 := hide (HRE.out _ _ hRr.out hb2)
          have HJ2 := hide (HJE.out _ _ _ hJr.out hb2)
          have HV2 := hide (hV.out.mono hb2)
          have HS2 : Hid (V.heap.size + 1 ≤ W2.heap.size) := hide (Nat.le_trans hSr.out hb2.size)
          clear hb2 HQ ct cm hRr hJr hV hSr
          go_wp2_with fail
          exact ⟨⟨j + 1, T, rfl, by omega, hide (by rw [rgsU_no HNO.out]; exact hTl.out), HV2, hide (by rw [rgsU_no HNO.out]; exact HJ2.out), HR2, HS2⟩, by simp only [intOf]; omega⟩
        rw [decide_eq_true hmj] at HQ
        have HYE : Hid (ldr N (nb4 W H) m j) := hide (Classical.not_not.1 (fun h => htd ((hTl.out j).2 ((told_iff HSY.out hj hmj).2 h))))
        have HGY := hide (rgsU_yes HYE.out)
        have HTY : Hid (∀ q, q ∈ T ++ spr N (nb4 W H) m j ↔ q ∈ (rgsU N (nb4 W H) m (j + 1)).flatten) := hide (fun q => by
          rw [rgsU_yes HYE.out, List.flatten_append, List.mem_append, List.mem_append, hTl.out q]
          simp)
        have HGM : Hid (∀ x ∈ spr N (nb4 W H) m j, x < N) := hide (fun x hx => (mem_spr.1 hx).lt)
        have HGL : Hid ((spr N (nb4 W H) m j).length ≤ 100) := hide (by
          have h2 : (spr N (nb4 W H) m j).length ≤ N := by rw [spr]; exact pls_len _ _
          omega)
        have HPF : Hid (rgsU N (nb4 W H) m j ++ [spr N (nb4 W H) m j] <+: rgsU N (nb4 W H) m N) := hide (by
          rw [← HGY.out]
          obtain ⟨t, ht⟩ := rgsU_pre (N := N) (nb := nb4 W H) (m := m) (j := j + 1) (d := N - (j + 1))
          rw [show j + 1 + (N - (j + 1)) = N by omega] at ht
          exact ⟨t, ht⟩)
        have HSP : Hid (∀ W2, RgR gb mb sb db W H a N c f lb lo W2 → J (rgsU N (nb4 W H) m j) W2 → Calls Try.prog 48 #[.agg (gdA W H a N c), .int .i64 j, .func (.func f) #[] lb, .slice (some ⟨db, 0, none⟩) 4 4] W2 fun e w' => ∃ a c, e = .returned (.slice a (spr N (nb4 W H) m j).length c) ∧ w'.ownsRow W2.heap.size 3 1 (.slice a (spr N (nb4 W H) m j).length c) (spr N (nb4 W H) m j).length ((toI (spr N (nb4 W H) m j)).map (Value.int .i64)) ∧ Below W2.heap.size W2 w') := hide (fun W2 h1 h2 => Spread_any W H N c j db f lb a m W2 hW hH HNN.out hj hmj h1.d (fun q => q ∉ (rgsU N (nb4 W H) m j).flatten) (fun x q hx hq => beside_told HSY.out HBN.out HYE.out hx hq) ⟨en, fun q V2 hq hd hb => HM.out _ _ h2 q V2 hq hd hb⟩)
        obtain ⟨L, hL⟩ : ∃ L, spr N (nb4 W H) m j = L := ⟨_, rfl⟩
        rw [hL] at HGY HTY HGM HGL HPF HSP
        obtain ⟨gl, hgl⟩ : ∃ gl, L.length = gl := ⟨_, rfl⟩
        rw [hgl] at HSP HGL
        have hglb : gl ≤ 100 := HGL.out
        have HGLE := hide hgl
        clear htd hmj hL hgl
        go_wp2_with fail
        refine HQ.out.mono ?_
        rintro e W2 ⟨rfl, hb2⟩
        have HR2 := hide (HRE.out _ _ hRr.out hb2)
        have HJ2 := hide (HJE.out _ _ _ hJr.out hb2)
        have HV2 := hide (hV.out.mono hb2)
        have HS2 : Hid (V.heap.size + 1 ≤ W2.heap.size) := hide (Nat.le_trans hSr.out hb2.size)
        have hg := HR2.out.g
        have cm := HR2.out.m
        have cs := HR2.out.s
        have HC := hide (HSP.out W2 HR2.out HJ2.out)
        clear hb2 HQ ct hRr hJr hV hSr HSP
        go_wp2_with (first | (refine wpList_load_gd rfl (.tmp 1) rfl gb rfl hg ?_) | fail)
        refine HC.out.mono ?_
        rintro e W2b ⟨ga, gc, rfl, hO, hB2⟩
        have HR2b := hide (HRE.out _ _ HR2.out hB2)
        have HJ2b := hide (HJE.out _ _ _ HJ2.out hB2)
        have HV2b := hide (HV2.out.mono hB2)
        have HI2 : Hid (Ir (fun k => V.heap.size + 1 ≤ k) W2b ga gl gc (toI L)) := hide (Ir.of_own hO (fun k h1 h2 => Nat.le_trans HS2.out h1))
        have HS2b : Hid (V.heap.size + 1 ≤ W2b.heap.size) := hide (Nat.le_trans HS2.out hB2.size)
        clear HC hg cm cs hO hB2 HV2 HJ2 HR2 HS2
        have hcap := HI2.out.rd.cap
        have hmax : gc ≤ 9223372036854775807 := by have := HI2.out.rd.max; unfold maxLen at this; omega
        go_wp2_with fail
        go_loopw [32] (fun v wr => ∃ i : Nat, v = .int .i64 i ∧ i ≤ gl ∧ Hid (Vb wr V.heap.size 102 (mtL (T ++ L.take i))) ∧ Hid (Keeps (fun k => k = V.heap.size) W2b wr)) (fun v _ => gl - (intOf v).toNat)
        case atStart => exact ⟨0, rfl, by omega, hide (by rw [List.take_zero, List.append_nil]; exact HV2b.out), hide (Keeps.refl _ _)⟩
        case round =>
          obtain ⟨i, rfl, hil, hVq, hKq⟩ := hrel
          by_cases hi : i < gl
          · have hi' : (i : Int) < (gl : Int) := by omega
            have hIq := HI2.out.keeps hKq.out (fun k hk e => by omega)
            obtain ⟨gb2, go2, rfl, hcell⟩ := hIq.rd.cells (by omega)
            have hci := hcell i hi
            rw [toI_getD (by rw [HGLE.out]; exact hi)] at hci
            have hx : L.getD i 0 < N := HGM.out _ (getD_memN (by rw [HGLE.out]; exact hi))
            have HTK : Hid (L.take (i + 1) = L.take i ++ [L.getD i 0]) := hide (by
              have hh : i < L.length := by rw [HGLE.out]; exact hi
              rw [List.take_succ_eq_append_getElem hh]
              simp [List.getD, hh])
            obtain ⟨x, hxx⟩ : ∃ x, L.getD i 0 = x := ⟨_, rfl⟩
            rw [hxx] at hci hx HTK
            have hx100 : (x : Int) < 100 := by omega
            have cm := hVq.out.cell (mtL_at (G := T ++ L.take i) (show x < 100 by omega))
            have fm := hVq.out.frozen x
            have HV3 : Hid (Vb (wr.setCell ⟨V.heap.size, x, none⟩ (.bool true)) V.heap.size 102 (mtL (T ++ L.take (i + 1)))) := hide (by
              have := hVq.out.set x (.bool true)
              rw [mtL_set] at this
              rw [HTK.out, ← List.append_assoc]
              exact this)
            have HK3 : Hid (Keeps (fun k => k = V.heap.size) W2b (wr.setCell ⟨V.heap.size, x, none⟩ (.bool true))) := hide (hKq.out.trans (Keeps.set1 _ _ _ _))
            clear hcell hIq hxx hVq hKq
            go_wp2_with fail
            exact ⟨⟨i + 1, rfl, by omega, HV3, HK3⟩, by simp only [intOf]; omega⟩
          · obtain rfl : i = gl := by omega
            have HV4 : Hid (Vb wr V.heap.size 102 (mtL (T ++ L))) := hide (by
              have := hVq.out
              rw [List.take_of_length_le (by rw [HGLE.out]; exact Nat.le_refl _)] at this
              exact this)
            have HR4 := hide (HRO.out _ _ HR2b.out hKq.out)
            have HJ4 := hide (HJK.out _ _ _ HJ2b.out hKq.out)
            have HS4 : Hid (V.heap.size + 1 ≤ wr.heap.size) := hide (Nat.le_trans HS2b.out hKq.out.size)
            have HI4 : Hid (Ir (fun k => lo ≤ k) wr ga i gc (toI L)) := hide ((HI2.out.keeps hKq.out (fun k hk e => by omega)).wide (fun k _ hk => Nat.le_trans HLO.out hk))
            obtain ⟨fn, tmps, assign, body, hy, hRR⟩ := YieldAt.anyD (m' := 0) (HY.out (rgsU N (nb4 W H) m j) L #[.slice ga i gc] wr HJ4.out HPF.out ⟨ga, gc, by rw [HGLE.out], by rw [HGLE.out]; exact HI4.out⟩ HS4.out)
            clear hVq hKq HV2b HR2b HJ2b HS2b HI2 HI4 HJ4
            go_upto_region 11 with fail
            refine (wpIn_wide (n := 1)).1 ?_
            gi_wp2
            refine hRR.mono ?_
            rintro e W5 ⟨h5, hk5⟩
            have HR5 := hide (HRK.out _ _ HR4.out hk5)
            have HV5 := hide (HV4.out.keeps hk5 HXO.out)
            have HS5 : Hid (V.heap.size + 1 ≤ W5.heap.size) := hide (Nat.le_trans HS4.out hk5.size)
            clear hy hRR hk5 HR4 HV4 HS4
            rcases h5 with ⟨rfl, hJ5⟩ | ⟨rfl, hJ5⟩
            · have HJ5 : Hid (J (rgsU N (nb4 W H) m (j + 1)) W5) := hide (by rw [HGY.out]; exact hJ5)
              clear hJ5
              gi_wp2
              go_wp2_with fail
              exact ⟨⟨j + 1, T ++ L, rfl, by omega, HTY, HV5, HJ5, HR5, HS5⟩, by simp only [intOf]; omega⟩
            · have HJ5 := hide hJ5
              clear hJ5
              gi_wp2
              go_wp2_with fail
              refine bodyPost_ret (results_none rfl _ _ _) rfl ?_
              exact ⟨⟨_, rfl⟩, HR5.out, .inr HJ5.out⟩
    · obtain rfl : j = N := by omega
      go_wp2_with fail
      refine bodyPost_end (results_none rfl _ _ _) rfl ?_
      exact ⟨⟨_, rfl⟩, hRr.out, .inl hJr.out⟩

end Go.Proofs.Ytafiaimlmdflnaa
