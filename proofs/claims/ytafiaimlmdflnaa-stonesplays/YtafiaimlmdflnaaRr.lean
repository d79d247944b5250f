/-
  The document's questions: what is beside marked places; the list of marked places; all that is joined to a place. No conditions beyond those that each theorem bears.
-/
import Derived.Test.YtafiaimlmdflnaaBl
import Derived.Test.YtafiaimlmdflnaaBq
namespace Go.Proofs.Ytafiaimlmdflnaa
open Go.RowKit Go.Shelf

attribute [local irreducible] D4 bl yes

set_option maxRecDepth 100000 in
set_option maxHeartbeats 4000000 in
theorem besideAny_any (W H : Nat) (a : Option Addr) (N c p g : Nat) (S : Nat → Bool) (w : World) (hW : 1 ≤ W ∧ W ≤ 10) (hN : N ≤ 100) (hp : p ≤ 100) (hS : Bm w g N S) :
    Calls Try.prog 40 #[.agg (gdA W H a N c), .int .i64 p, .slice (some ⟨g, 0, none⟩) N N] w fun e w' => e = .returned (.bool (decide (∃ i, i < N ∧ S i = true ∧ adj W i p))) ∧ Below w.heap.size w w' := by
  obtain ⟨w1, hw1⟩ : ∃ w1, w.alloc (.cells (gdA W H a N c) 24) = w1 := ⟨_, rfl⟩
  have B1 : Below w.heap.size w w1 := by rw [← hw1]; exact (Below.refl _ _).alloc (Nat.le_refl _) _
  have HG1 : Hid (Gd w1 w.heap.size W H a N c) := hide (by rw [← hw1]; exact Gd.new w W H a N c)
  have HB1 := hide B1
  have HS1 := hide (hS.mono B1)
  have HBE := hide (fun i (hi : i < N) W' => besideR_any W H a N c i p W' hW (by omega) hp)
  clear B1 hS
  go_enter Try.func40, Try.ntmps40
  go_upto_region 1 with fail
  clear hw1
  go_wp2_with fail
  go_loopw [7] (fun v wr => ∃ j : Nat, v = .int .i64 j ∧ j ≤ N ∧ Hid (∀ i, i < j → ¬ (S i = true ∧ adj W i p)) ∧ Hid (Below w1.heap.size w1 wr)) (fun v _ => N - (intOf v).toNat)
  case atStart => exact ⟨0, rfl, by omega, hide (fun i hi => absurd hi (by omega)), hide (Below.refl _ _)⟩
  case round =>
    obtain ⟨j, rfl, hjN, hno, hB⟩ := hrel
    by_cases hj : j < N
    · have hj' : (j : Int) < (N : Int) := by omega
      have cm := (HS1.out.mono hB.out).cell hj
      have hg := HG1.out.below hB.out HG1.out.lt
      by_cases hs : S j = true
      · rw [hs] at cm
        have HC := hide (HBE.out j hj wr)
        by_cases ha : adj W j p
        · rw [decide_eq_true ha] at HC
          have HD : Hid (decide (∃ i, i < N ∧ S i = true ∧ adj W i p) = true) := hide (decide_eq_true ⟨j, hj, hs, ha⟩)
          clear hs ha
          go_wp2_with (first | (refine wpList_load_gd rfl (.tmp 3) rfl w.heap.size rfl hg ?_) | fail)
          refine HC.out.mono ?_
          rintro e w2 ⟨rfl, hb2⟩
          have HB2 : Hid (Below w.heap.size w w2) := hide (HB1.out.trans ((hB.out.trans (hb2.mono hB.out.size)).mono HB1.out.size))
          clear hb2 hg cm HC
          go_wp2_with fail
          go_ret
          exact ⟨ret_bool HD.out.symm, HB2.out⟩
        · rw [decide_eq_false ha] at HC
          have HNO : Hid (∀ i, i < j + 1 → ¬ (S i = true ∧ adj W i p)) := hide (fun i hi h => by
            by_cases e : i = j
            · subst e; exact ha h.2
            · exact hno.out i (by omega) h)
          clear hs ha
          go_wp2_with (first | (refine wpList_load_gd rfl (.tmp 3) rfl w.heap.size rfl hg ?_) | fail)
          refine HC.out.mono ?_
          rintro e w2 ⟨rfl, hb2⟩
          have HB2 : Hid (Below w1.heap.size w1 w2) := hide (hB.out.trans (hb2.mono hB.out.size))
          clear hb2 hg cm HC
          go_wp2_with fail
          exact ⟨⟨j + 1, rfl, by omega, HNO, HB2⟩, by simp only [intOf]; omega⟩
      · have hsf : S j = false := by simpa using hs
        rw [hsf] at cm
        have HNO : Hid (∀ i, i < j + 1 → ¬ (S i = true ∧ adj W i p)) := hide (fun i hi h => by
          by_cases e : i = j
          · subst e; exact hs h.1
          · exact hno.out i (by omega) h)
        clear hs hsf hg
        go_wp2_with fail
        exact ⟨⟨j + 1, rfl, by omega, HNO, hB⟩, by simp only [intOf]; omega⟩
    · obtain rfl : j = N := by omega
      have HD : Hid (decide (∃ i, i < j ∧ S i = true ∧ adj W i p) = false) := hide (decide_eq_false (fun ⟨i, h1, h2, h3⟩ => hno.out i h1 ⟨h2, h3⟩))
      go_wp2_with fail
      go_ret
      exact ⟨ret_bool HD.out.symm, HB1.out.trans (hB.out.mono HB1.out.size)⟩

set_option maxRecDepth 100000 in
set_option maxHeartbeats 4000000 in
theorem listOf_any (N g : Nat) (S : Nat → Bool) (w : World) (hN : N ≤ 100) (hS : Bm w g N S) :
    Calls Try.prog 41 #[.slice (some ⟨g, 0, none⟩) N N] w fun e w' => ∃ a c, e = .returned (.slice a (yes N S).length c) ∧ w'.ownsRow w.heap.size 3 1 (.slice a (yes N S).length c) (yes N S).length ((toI (yes N S)).map (Value.int .i64)) ∧ Below w.heap.size w w' := by
  have HS := hide hS
  have HGL := hide hS.lt
  clear hS
  go_enter Try.func41, Try.ntmps41
  go_wp2_with fail
  go_loopw [3, 4] (fun v u wr => ∃ j : Nat, u = .int .i64 j ∧ j ≤ N ∧ Hid (wr.ownsRow w.heap.size 3 1 v (yes j S).length ((toI (yes j S)).map (Value.int .i64))) ∧ Hid (Below w.heap.size w wr)) (fun _ u _ => N - (intOf u).toNat)
  case atStart => exact ⟨0, rfl, by omega, hide (by rw [show yes 0 S = [] by rw [yes]; rfl]; exact World.ownsRow_nil _ _ _ _), hide (Below.refl _ _)⟩
  case round =>
    obtain ⟨j, rfl, hjN, hO, hB⟩ := hrel
    by_cases hj : j < N
    · have hj' : (j : Int) < (N : Int) := by omega
      have cm := (HS.out.keeps (X := fun k => w.heap.size ≤ k) (Keeps.of_below hB.out) (by have := HGL.out; omega)).cell hj
      by_cases hs : S j = true
      · rw [hs] at cm
        have HY : Hid (yes (j + 1) S = yes j S ++ [j]) := hide (yes_succ_y hs)
        have O5a := hO.out.alloc (.cells #[.int .i64 j] 3)
        have N5a := one_rd wr j
        have hyl := yes_len j S
        obtain ⟨yl, hyle⟩ : ∃ yl, (yes j S).length = yl := ⟨_, rfl⟩
        rw [hyle] at O5a hyl
        have HYE := hide hyle
        have hbs : w.heap.size ≤ (wr.alloc (.cells #[.int .i64 j] 3)).heap.size := by have := hB.out.size; simp; omega
        have HB2 : Hid (Below w.heap.size w (wr.alloc (.cells #[.int .i64 j] 3))) := hide (hB.out.alloc hB.out.size _)
        have HO := hide hO.out
        clear hs hyle hO
        go_wp2_with (at_builtin; refine wpList_append_i _ rfl _ _ rfl w.heap.size _ yl _ rfl O5a ⟨wr.heap.size, 0, none⟩ 1 1 [(j : Int)] rfl N5a (by omega) (by omega) hbs ?_)
        intro v' w2 hO2 hg2 _
        have HO2 : Hid (w2.ownsRow w.heap.size 3 1 v' (yes (j + 1) S).length ((toI (yes (j + 1) S)).map (Value.int .i64))) := hide (by
          rw [HY.out, List.length_append, List.length_singleton, HYE.out, toI_snoc, List.map_append]
          exact hO2)
        have HB3 : Hid (Below w.heap.size w w2) := hide (HB2.out.grown hg2 HB2.out.size (fun k hk => (HO.out.lt k hk).1))
        clear hO2 hg2 O5a N5a hbs cm
        go_wp2_with fail
        exact ⟨⟨j + 1, rfl, by omega, HO2, HB3⟩, by simp only [intOf]; omega⟩
      · have hsf : S j = false := by simpa using hs
        rw [hsf] at cm
        have HY : Hid (yes (j + 1) S = yes j S) := hide (yes_succ_n hsf)
        clear hs hsf
        go_wp2_with fail
        exact ⟨⟨j + 1, rfl, by omega, hide (by rw [HY.out]; exact hO.out), hB⟩, by simp only [intOf]; omega⟩
    · obtain rfl : j = N := by omega
      obtain ⟨a, c, rfl⟩ := slice_form hO.out
      go_wp2_with fail
      go_ret
      exact ⟨a, c, rfl, hO.out, hB.out⟩

/-- How many are told yes of. -/
theorem yes_upd {N q : Nat} {S : Nat → Bool} (hq : q < N) (h : S q = false) : (yes N (upd S q true)).length = (yes N S).length + 1 := by
  induction N with
  | zero => omega
  | succ N ih =>
    by_cases e : q = N
    · subst e
      have h1 : yes q (upd S q true) = yes q S := by
        unfold yes
        refine List.filter_congr fun r hr => ?_
        have := List.mem_range.1 hr
        unfold upd
        rw [if_neg (by omega)]
      rw [yes_succ_y (show upd S q true q = true by unfold upd; rw [if_pos rfl]), yes_succ_n h, h1]
      simp
    · have h2 : upd S q true N = S N := by unfold upd; rw [if_neg (fun h => e h.symm)]
      have ih' := ih (by omega)
      cases hN : S N with
      | true => rw [yes_succ_y (by rw [h2]; exact hN), yes_succ_y hN]; simp [ih']
      | false => rw [yes_succ_n (by rw [h2]; exact hN), yes_succ_n hN]; exact ih'

/-- What is in so far: joined to the place; the place itself. -/
structure Rin (W H N : Nat) (M : Nat → Bool) (p : Nat) (S : Nat → Bool) : Prop where
  st : S p = true
  wk : ∀ q, q < N → S q = true → Wk N (nb4 W H) (fun q => M q = true) p q

/-- Nothing marked is beside what is in, as far as the first i places go. -/
def Shut (W N : Nat) (M S : Nat → Bool) (i : Nat) : Prop := ∀ a, a < i → S a = true → ∀ b, b < N → M b = true → adj W a b → S b = true

theorem Rin.all {W H N : Nat} {M : Nat → Bool} {p : Nat} {S : Nat → Bool} (h : Rin W H N M p S) (hs : Shut W N M S N) (q : Nat) (hq : q < N) : S q = true ↔ Wk N (nb4 W H) (fun q => M q = true) p q := by
  refine ⟨h.wk q hq, fun hw => ?_⟩
  induction hw with
  | refl _ _ => exact h.st
  | @step b c hb hc h0 hm ih => exact hs b hb.lt (ih hb.lt) c h0 hm (nb4_iff.1 hc).2

theorem Rin.add {W H N : Nat} {M : Nat → Bool} {p : Nat} {S : Nat → Bool} (h : Rin W H N M p S) (hN : W * H = N) {a b : Nat} (ha : a < N) (hb : b < N) (hs : S a = true) (hm : M b = true) (hab : adj W a b) : Rin W H N M p (upd S b true) := by
  refine ⟨?_, fun q hq hq2 => ?_⟩
  · unfold upd; split
    · rfl
    · exact h.st
  · unfold upd at hq2
    by_cases e : q = b
    · subst e
      exact .step (h.wk a ha hs) (nb4_iff.2 ⟨by rw [hN]; exact hq, hab⟩) hq hm
    · rw [if_neg e] at hq2
      exact h.wk q hq hq2

/-- What the walk through all pairs of places has found, since the row was S0. -/
structure Rw (W H N : Nat) (M : Nat → Bool) (p : Nat) (S0 S : Nat → Bool) (ch : Bool) (i : Nat) : Prop where
  rin : Rin W H N M p S
  grew : ch = true → (yes N S0).length < (yes N S).length
  still : ch = false → (∀ q, S q = S0 q) ∧ Shut W N M S i

/-- How many cells of a row say yes. -/
noncomputable def cW (V : World) (g N : Nat) : Nat := ((List.range N).filter fun q => @decide (V.cell? ⟨g, q, none⟩ = some (.bool true)) (Classical.propDecidable _)).length

theorem Bm.cW {V : World} {g N : Nat} {S : Nat → Bool} (h : Bm V g N S) : cW V g N = (yes N S).length := by
  unfold Go.Proofs.Ytafiaimlmdflnaa.cW
  rw [yes]
  congr 1
  refine List.filter_congr fun q hq => ?_
  rw [Bool.eq_iff_iff, @decide_eq_true_iff _ (Classical.propDecidable _), h.cell (List.mem_range.1 hq)]
  simp

def onB : Value → Nat | .bool true => 1 | _ => 0

theorem Rw.le {W H N : Nat} {M : Nat → Bool} {p : Nat} {S0 S : Nat → Bool} {ch : Bool} {i : Nat} (h : Rw W H N M p S0 S ch i) : (yes N S0).length ≤ (yes N S).length := by
  cases hc : ch with
  | true => have := h.grew hc; omega
  | false =>
    have := (h.still hc).1
    rw [show S = S0 from funext this]
    exact Nat.le_refl _

theorem Rw.next {W H N : Nat} {M : Nat → Bool} {p : Nat} {S0 S : Nat → Bool} {ch : Bool} {i : Nat} (h : Rw W H N M p S0 S ch i) (hb : ch = false → S i = true → ∀ b, b < N → M b = true → adj W i b → S b = true) : Rw W H N M p S0 S ch (i + 1) :=
  ⟨h.rin, h.grew, fun hc => ⟨(h.still hc).1, fun a ha => by
    by_cases e : a = i
    · subst e; exact hb hc
    · exact (h.still hc).2 a (by omega)⟩⟩

theorem Rw.add {W H N : Nat} {M : Nat → Bool} {p : Nat} {S0 S : Nat → Bool} {ch : Bool} {i : Nat} (h : Rw W H N M p S0 S ch i) (hN : W * H = N) {b : Nat} (hi : i < N) (hb : b < N) (hs : S i = true) (hsb : S b = false) (hm : M b = true) (hab : adj W i b) : Rw W H N M p S0 (upd S b true) true i :=
  ⟨h.rin.add hN hi hb hs hm hab, fun _ => by have := h.le; rw [yes_upd hb hsb]; omega, fun hc => by cases hc⟩

attribute [local irreducible] upd cW

set_option maxRecDepth 100000 in
set_option maxHeartbeats 16000000 in
theorem regionOf_any (W H : Nat) (a : Option Addr) (N c p mg : Nat) (M : Nat → Bool) (w : World) (hW : 1 ≤ W ∧ W ≤ 10) (hH : 1 ≤ H ∧ H ≤ 10) (hN : W * H = N) (hp : p < N) (hMp : M p = true) (hM : Bm w mg N M) :
    Calls Try.prog 38 #[.agg (gdA W H a N c), .int .i64 p, .slice (some ⟨mg, 0, none⟩) N N] w fun e w' => ∃ g S, e = .returned (.slice (some ⟨g, 0, none⟩) N N) ∧ Bm w' g N S ∧ (∀ q, q < N → (S q = true ↔ Wk N (nb4 W H) (fun q => M q = true) p q)) ∧ w.heap.size ≤ g ∧ Below w.heap.size w w' := by
  obtain ⟨i0, hi, hz0, hz1, hz2⟩ := info_parts info4
  have hN100 : N ≤ 100 := by rw [← hN]; exact Nat.mul_le_mul hW.2 hH.2
  obtain ⟨w1, hw1⟩ : ∃ w1, w.alloc (.cells (gdA W H a N c) 24) = w1 := ⟨_, rfl⟩
  have B1 : Below w.heap.size w w1 := by rw [← hw1]; exact (Below.refl _ _).alloc (Nat.le_refl _) _
  have G1 : Gd w1 w.heap.size W H a N c := by rw [← hw1]; exact Gd.new w W H _ N c
  have HB1 := hide B1
  have HG1 := hide G1
  have HM1 := hide (hM.mono B1)
  have HML := hide hM.lt
  obtain ⟨-, -, g2⟩ := G1.cells
  have hmm : N ≤ maxLen := by unfold maxLen; omega
  have hby : i0.bytes * N ≤ 281474976710656 := by rw [hz2]; omega
  have hp' : (p : Int) < (N : Int) := by omega
  have HBE := hide (fun i j (hi : i < N) (hj : j < N) W' => besideR_any W H a N c i j W' hW (by omega) (by omega))
  have HNN := hide hN
  clear B1 G1 hM
  go_enter Try.func38, Try.ntmps38
  go_upto_region 1 with fail
  clear hw1
  go_upto_region 2 with (at_make; refine wpList_make_full w1 rfl _ _ 60 rfl w1.heap.size 4 i0 (.bool false) 1 Try.underlying60 hi hz0 hz1 _ _ _ _ N rfl rfl rfl rfl hby hmm (Nat.le_refl _) ?_)
  intro w2 hO hg2
  have M0 : Bm w2 w1.heap.size N (fun _ => false) := by unfold Bm; rw [← bl_made]; exact own_baseB (by rw [Nat.mul_one, show (Value.bool false).cells = #[Value.bool false] from rfl]; exact hO)
  have B2 : Below w1.heap.size w1 w2 := (Below.refl _ _).grown hg2 (Nat.le_refl _) (fun j hj => by cases hj)
  have cp := M0.cell hp
  have fp := M0.frozen p
  have HS0 : Hid (Bm (w2.setCell ⟨w1.heap.size, p, none⟩ (.bool true)) w1.heap.size N (upd (fun _ => false) p true)) := hide (M0.set p true)
  have HB2 : Hid (Below w1.heap.size w1 (w2.setCell ⟨w1.heap.size, p, none⟩ (.bool true))) := hide (B2.setCell (p := ⟨w1.heap.size, p, none⟩) (Nat.le_refl _) _)
  have HRI : Hid (Rin W H N M p (upd (fun _ => false) p true)) := hide ⟨by unfold upd; rw [if_pos rfl], fun q hq h => by
    unfold upd at h
    by_cases e : q = p
    · subst e; exact .refl hq hMp
    · rw [if_neg e] at h; cases h⟩
  clear hO hg2 hi hz0 hz1 hz2 hby g2 M0 B2
  go_wp2_with fail
  go_loopw [8] (fun v wr => ∃ (ch : Bool) (S : Nat → Bool), v = .bool ch ∧ Hid (Rin W H N M p S) ∧ Hid (ch = false → Shut W N M S N) ∧ Hid (Bm wr w1.heap.size N S) ∧ Hid (Below w1.heap.size w1 wr)) (fun v wr => 2 * (N - cW wr w1.heap.size N) + onB v)
  case atStart => exact ⟨true, _, rfl, HRI, hide (fun h => by cases h), HS0, HB2⟩
  case round =>
    obtain ⟨ch, S, rfl, hri, hsh, hBm, hB⟩ := hrel
    clear HRI HS0 HB2
    cases ch with
    | false =>
      go_wp2_with fail
      go_ret
      refine ⟨w1.heap.size, rfl, S, hBm.out, hri.out.all (hsh.out (by first | trivial | rfl)), HB1.out.size, HB1.out.trans (hB.out.mono HB1.out.size)⟩
    | true =>
      have HCW : Hid (cW wr w1.heap.size N = (yes N S).length) := hide hBm.out.cW
      have HR0 : Hid (Rw W H N M p S S false 0) := hide ⟨hri.out, (fun h => by cases h), fun _ => ⟨fun _ => rfl, fun a ha => absurd ha (by omega)⟩⟩
      clear hri hsh
      go_wp2_with fail
      go_loopw [8, 9] (fun u v wr2 => ∃ (c2 : Bool) (S2 : Nat → Bool) (i : Nat), u = .bool c2 ∧ v = .int .i64 i ∧ i ≤ N ∧ Hid (Rw W H N M p S S2 c2 i) ∧ Hid (Bm wr2 w1.heap.size N S2) ∧ Hid (Below w1.heap.size w1 wr2)) (fun _ v _ => N - (intOf v).toNat)
      case atStart => exact ⟨false, S, 0, rfl, rfl, by omega, HR0, hBm, hB⟩
      case round =>
        obtain ⟨c2, S2, i, rfl, rfl, hiN, hRw, hBm2, hB2⟩ := hrel
        clear HR0
        by_cases hi : i < N
        · have hi' : (i : Int) < (N : Int) := by omega
          have ci := hBm2.out.cell hi
          cases hsi : S2 i with
          | false =>
            rw [hsi] at ci
            have HR2 : Hid (Rw W H N M p S S2 c2 (i + 1)) := hide (hRw.out.next (fun _ h => by rw [hsi] at h; cases h))
            clear hsi
            go_wp2_with fail
            exact ⟨⟨c2, S2, i + 1, rfl, rfl, by omega, HR2, hBm2, hB2⟩, by simp only [intOf]; omega⟩
          | true =>
            rw [hsi] at ci
            have HSI := hide hsi
            clear hsi
            go_wp2_with fail
            clear ci
            go_loopw [8, 10] (fun u v wr3 => ∃ (c3 : Bool) (S3 : Nat → Bool) (j : Nat), u = .bool c3 ∧ v = .int .i64 j ∧ j ≤ N ∧ Hid (Rw W H N M p S S3 c3 i) ∧ Hid (S3 i = true) ∧ Hid (c3 = false → ∀ b, b < j → M b = true → adj W i b → S3 b = true) ∧ Hid (Bm wr3 w1.heap.size N S3) ∧ Hid (Below w1.heap.size w1 wr3)) (fun _ v _ => N - (intOf v).toNat)
            case atStart => exact ⟨c2, S2, 0, rfl, rfl, by omega, hRw, HSI, hide (fun _ b hb => absurd hb (by omega)), hBm2, hB2⟩
            case round =>
              obtain ⟨c3, S3, j, rfl, rfl, hjN, hRw3, hSi3, hno, hBm3, hB3⟩ := hrel
              clear hRw hBm2 hB2
              by_cases hj : j < N
              · have hj' : (j : Int) < (N : Int) := by omega
                have hmgl := HML.out
                have hb1s := HB1.out.size
                have cm := (HM1.out.keeps (X := fun k => w1.heap.size ≤ k) (Keeps.of_below hB3.out) (by omega)).cell hj
                have cj := hBm3.out.cell hj
                clear hmgl hb1s
                cases hmj : M j with
                | false =>
                  rw [hmj] at cm
                  have HN3 : Hid (c3 = false → ∀ b, b < j + 1 → M b = true → adj W i b → S3 b = true) := hide (fun hc b hb hm ha => by
                    by_cases e : b = j
                    · subst e; rw [hmj] at hm; cases hm
                    · exact hno.out hc b (by omega) hm ha)
                  clear hmj
                  go_wp2_with fail
                  exact ⟨⟨c3, S3, j + 1, rfl, rfl, by omega, hRw3, hSi3, HN3, hBm3, hB3⟩, by simp only [intOf]; omega⟩
                | true =>
                  rw [hmj] at cm
                  have HMJ := hide hmj
                  clear hmj
                  cases hsj : S3 j with
                  | true =>
                    rw [hsj] at cj
                    have HN3 : Hid (c3 = false → ∀ b, b < j + 1 → M b = true → adj W i b → S3 b = true) := hide (fun hc b hb hm ha => by
                      by_cases e : b = j
                      · subst e; exact hsj
                      · exact hno.out hc b (by omega) hm ha)
                    clear hsj
                    go_wp2_with fail
                    exact ⟨⟨c3, S3, j + 1, rfl, rfl, by omega, hRw3, hSi3, HN3, hBm3, hB3⟩, by simp only [intOf]; omega⟩
                  | false =>
                    rw [hsj] at cj
                    have HSJ := hide hsj
                    clear hsj
                    have hg := HG1.out.below hB3.out HG1.out.lt
                    have HC := hide (HBE.out i j hi hj wr)
                    by_cases ha : adj W i j
                    · rw [decide_eq_true ha] at HC
                      have HR4 := hide (hRw3.out.add HNN.out hi hj hSi3.out HSJ.out HMJ.out ha)
                      have HS4 : Hid (upd S3 j true i = true) := hide (by rw [upd]; split; rfl; exact hSi3.out)
                      clear ha
                      go_wp2_with (first | (refine wpList_load_gd rfl (.tmp 3) rfl w.heap.size rfl hg ?_) | fail)
                      refine HC.out.mono ?_
                      rintro e w4 ⟨rfl, hb4⟩
                      have M4 := hBm3.out.mono hb4
                      have c4 := M4.cell hj
                      have f4 := M4.frozen j
                      have HM5 : Hid (Bm (w4.setCell ⟨w1.heap.size, j, none⟩ (.bool true)) w1.heap.size N (upd S3 j true)) := hide (M4.set j true)
                      have HB5 : Hid (Below w1.heap.size w1 (w4.setCell ⟨w1.heap.size, j, none⟩ (.bool true))) := hide ((hB3.out.trans (hb4.mono hB3.out.size)).setCell (p := ⟨w1.heap.size, j, none⟩) (Nat.le_refl _) _)
                      clear hb4 hg cm cj HC M4
                      go_wp2_with fail
                      exact ⟨⟨true, upd S3 j true, j + 1, rfl, rfl, by omega, HR4, HS4, hide (fun h => by cases h), HM5, HB5⟩, by simp only [intOf]; omega⟩
                    · rw [decide_eq_false ha] at HC
                      have HN3 : Hid (c3 = false → ∀ b, b < j + 1 → M b = true → adj W i b → S3 b = true) := hide (fun hc b hb hm ha' => by
                        by_cases e : b = j
                        · subst e; exact absurd ha' ha
                        · exact hno.out hc b (by omega) hm ha')
                      clear ha
                      go_wp2_with (first | (refine wpList_load_gd rfl (.tmp 3) rfl w.heap.size rfl hg ?_) | fail)
                      refine HC.out.mono ?_
                      rintro e w4 ⟨rfl, hb4⟩
                      have HM4 := hide (hBm3.out.mono hb4)
                      have HB4 : Hid (Below w1.heap.size w1 w4) := hide (hB3.out.trans (hb4.mono hB3.out.size))
                      clear hb4 hg cm cj HC
                      go_wp2_with fail
                      exact ⟨⟨c3, S3, j + 1, rfl, rfl, by omega, hRw3, hSi3, HN3, HM4, HB4⟩, by simp only [intOf]; omega⟩
              · obtain rfl : j = N := by omega
                have HR5 : Hid (Rw W H j M p S S3 c3 (i + 1)) := hide (hRw3.out.next (fun hc _ b hb hm ha => hno.out hc b hb hm ha))
                go_wp2_with fail
                exact ⟨⟨c3, S3, i + 1, rfl, rfl, by omega, HR5, hBm3, hB3⟩, by simp only [intOf]; omega⟩
        · obtain rfl : i = N := by omega
          go_wp2_with fail
          refine ⟨⟨c2, S2, rfl, hide hRw.out.rin, hide (fun hc => (hRw.out.still hc).2), hBm2, hB2⟩, ?_⟩
          rw [hBm2.out.cW, HCW.out]
          have h1 := yes_len i S2
          cases c2 with
          | true => have := hRw.out.grew rfl; simp only [onB]; omega
          | false => have := hRw.out.le; simp only [onB]; omega

end Go.Proofs.Ytafiaimlmdflnaa
