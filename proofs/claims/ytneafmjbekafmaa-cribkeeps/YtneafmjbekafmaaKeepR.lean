/-
  What the reference's KeepOf answers for six good cards: the fold over the fours in its own order. No conditions beyond those that each theorem bears.
-/
import Derived.Test.YtneafmjbekafmaaBestMath
import Derived.Test.YtneafmjbekafmaaShow
import Derived.Test.YtneafmjbekafmaaOrdMath
import Derived.Deep.RegionHeld3
namespace Go.Proofs.Ytneafmjbekafmaa
open Go.RowKit Go.Shelf

/-- The fours ahead of the one without the places x and y, in the reference's order. -/
def preS (x y : Nat) : List (List Nat) := (List.range x).flatMap (fun x => (List.range x).map (fun y => twoOut x y 6)) ++ (List.range y).map (fun y => twoOut x y 6)
def stS (f : List Nat → Nat) (x y : Nat) : Int × List Nat := (preS x y).foldl (refS f) (-1, [])

theorem stS_start (f : List Nat → Nat) : stS f 0 0 = (-1, []) := rfl
theorem stS_y (f : List Nat → Nat) (x y : Nat) : stS f x (y + 1) = refS f (stS f x y) (twoOut x y 6) := by
  unfold stS preS
  rw [List.range_succ, List.map_append, ← List.append_assoc, List.foldl_append]
  rfl
theorem stS_x (f : List Nat → Nat) (x : Nat) : stS f (x + 1) 0 = stS f x x := by
  unfold stS preS
  rw [List.range_succ]
  simp
theorem stS_end (f : List Nat → Nat) : stS f 6 0 = refSets.foldl (refS f) (-1, []) := by
  unfold stS preS refSets
  simp

theorem stS_bound (f : List Nat → Nat) (m : Nat) (x : Nat) (hx : x < 6) (hf : ∀ x y, x < 6 → y < x → f (twoOut x y 6) ≤ m) : ∀ y, y ≤ x → (stS f x 0).1 ≤ m ∧ -1 ≤ (stS f x 0).1 ∧ (stS f x 0).2.length ≤ 4 → (stS f x y).1 ≤ m ∧ -1 ≤ (stS f x y).1 ∧ (stS f x y).2.length ≤ 4 := by
  intro y
  induction y with
  | zero => intro _ h; exact h
  | succ y ih =>
    intro hy h
    have h1 := ih (by omega) h
    rw [stS_y, refS]
    split
    · have := hf x y (by omega) (by omega)
      refine ⟨by simp only; omega, by simp only; omega, ?_⟩
      simp only
      have h4 := (comb_nodup _ (twoOut_mem x (by omega) y (by omega) (by omega))).2.1
      omega
    · exact h1

theorem stS_all (f : List Nat → Nat) (m : Nat) (hf : ∀ x y, x < 6 → y < x → f (twoOut x y 6) ≤ m) : ∀ x, x ≤ 6 → (stS f x 0).1 ≤ m ∧ -1 ≤ (stS f x 0).1 ∧ (stS f x 0).2.length ≤ 4 := by
  intro x
  induction x with
  | zero => intro _; rw [stS_start]; simp
  | succ x ih =>
    intro hx
    rw [stS_x]
    exact stS_bound f m x (by omega) hf x (Nat.le_refl _) (ih (by omega))

theorem refSets_in (f : List Nat → Nat) : (refSets.foldl (refS f) (-1, [])).2 ∈ comb 4 (List.range 6) := by
  have h1 : refSets = refSets.headD [] :: refSets.tail := by decide +kernel
  have hall : ∀ t ∈ refSets, t ∈ comb 4 (List.range 6) := by decide +kernel
  rw [h1, List.foldl_cons]
  have h0 : refS f (-1, []) (refSets.headD []) = ((f (refSets.headD []) : Int), refSets.headD []) := by
    rw [refS, if_pos]
    left; simp only; omega
  rw [h0]
  obtain ⟨r, hr, he, _⟩ := ref_inv f refSets.tail [refSets.headD []] (refSets.headD []) (by simp) (fun t ht => by
    simp at ht; subst ht; right; exact ⟨rfl, lexI_irr _⟩)
  rw [he]
  apply hall
  rw [h1]
  simpa using hr

theorem four_get (s : List Nat) (h : s ∈ comb 4 (List.range 6)) : ∃ x0 x1 x2 x3, s = [x0, x1, x2, x3] ∧ x0 < 6 ∧ x1 < 6 ∧ x2 < 6 ∧ x3 < 6 := by
  obtain ⟨_, h4, h6⟩ := comb_nodup s h
  match s, h4 with
  | [x0, x1, x2, x3], _ => exact ⟨x0, x1, x2, x3, rfl, h6 _ (by simp), h6 _ (by simp), h6 _ (by simp), h6 _ (by simp)⟩

theorem five_rd (w : World) (x0 x1 x2 x3 x4 : Nat) : Rd (w.alloc (.cells #[.int .i64 x0, .int .i64 x1, .int .i64 x2, .int .i64 x3, .int .i64 x4] 3)) (some ⟨w.heap.size, 0, none⟩) 5 5 (toI [x0, x1, x2, x3, x4]) := by
  refine ⟨rfl, Nat.le_refl _, by unfold maxLen; omega, (fun h => by simp at h), fun _ => ⟨w.heap.size, 0, rfl, fun i hi => ?_⟩⟩
  rcases (by omega : i = 0 ∨ i = 1 ∨ i = 2 ∨ i = 3 ∨ i = 4) with rfl | rfl | rfl | rfl | rfl <;> simp [toI]

theorem four_rd (w : World) (x0 x1 x2 x3 : Nat) : Rd (w.alloc (.cells #[.int .i64 x0, .int .i64 x1, .int .i64 x2, .int .i64 x3] 3)) (some ⟨w.heap.size, 0, none⟩) 4 4 (toI [x0, x1, x2, x3]) := by
  refine ⟨rfl, Nat.le_refl _, by unfold maxLen; omega, (fun h => by simp at h), fun _ => ⟨w.heap.size, 0, rfl, fun i hi => ?_⟩⟩
  rcases (by omega : i = 0 ∨ i = 1 ∨ i = 2 ∨ i = 3) with rfl | rfl | rfl | rfl <;> simp [toI]

set_option maxRecDepth 100000 in
set_option maxHeartbeats 8000000 in
theorem KeepOf_any (a : Option Addr) (c : Nat) (H : List Nat) (hnd : H.Nodup) (hlt : ∀ x ∈ H, x < 52) (hl : H.length = 6) (w : World) (h : Rd w a 6 c (toI H)) :
    Calls Try.prog 13 #[.slice a 6 c] w fun e w' => ∃ a' c', e = .returned (.tuple #[.slice a' 4 c', .int .i64 (refSets.foldl (refS (sumF H (othK (toI H) 52))) (-1, [])).1]) ∧ Rd w' a' 4 c' (toI (pick H (refSets.foldl (refS (sumF H (othK (toI H) 52))) (-1, [])).2)) ∧ Below w.heap.size w w' := by
  have hcm := h.max
  have hcn := h.cap
  unfold maxLen at hcm
  have FS := hide (fun s (hs : s ∈ comb 4 (List.range 6)) k (hk : k < 52) (hc : H.contains k = false) => four_start hnd hlt hl hs hk hc)
  have SL : Hid (∀ s ∈ comb 4 (List.range 6), ∀ k, k ≤ 52 → sumO (pick H s) (toI H) k ≤ 29 * k) := hide (fun s hs => sumO_le _ _ (fun k hk hc => by
    rw [contains_toI] at hc
    obtain ⟨f1, f2, f3⟩ := FS.out s hs k hk hc
    exact scN_le _ _ false f1 f2 f3))
  obtain ⟨f, hf⟩ : ∃ f, sumF H (othK (toI H) 52) = f := ⟨_, rfl⟩
  have HFS : Hid (∀ s, f s = sumO (pick H s) (toI H) 52) := hide (fun s => by rw [← hf, sumF_sumO])
  rw [hf]
  have SB : Hid (∀ x, x < 6 → ∀ y, y ≤ x → (stS f x y).1 ≤ 1508 ∧ -1 ≤ (stS f x y).1 ∧ (stS f x y).2.length ≤ 4) := hide (fun x hx y hy => by
    have hff : ∀ x y, x < 6 → y < x → f (twoOut x y 6) ≤ 1508 := fun x y hx hy => by
      rw [HFS.out]
      exact SL.out _ (twoOut_mem x hx y (by omega) (by omega)) 52 (by omega)
    exact stS_bound f 1508 x hx hff y hy (stS_all f 1508 hff x (by omega)))
  have HIN := hide (refSets_in f)
  have HEND := hide (stS_end f)
  have HLEN := hide hl
  have HH := hide h
  obtain ⟨b1, o1, rfl, hc1⟩ := h.cells (by omega)
  have HC : Hid (∀ i, i < 6 → w.cell? ⟨b1, o1 + i, none⟩ = some (.int .i64 (H.getD i 0 : Nat))) := hide (fun i hi => by have := hc1 i hi; rwa [toI_getD] at this)
  clear hf hc1 h hl hnd hlt
  go_enter Try.func13, Try.ntmps13
  go_wp2
  go_loopw [4, 5, 6] (fun s4 s5 s6 wr => ∃ (x : Nat) (ab : Option Addr) (cb : Nat), x ≤ 6 ∧ s6 = .int .i64 x ∧ s5 = .int .i64 (stS f x 0).1 ∧ s4 = .slice ab (stS f x 0).2.length cb ∧ Hid (Rd wr ab (stS f x 0).2.length cb (toI (stS f x 0).2)) ∧ Hid (Below w.heap.size w wr)) (fun _ _ v _ => 6 - (intOf v).toNat)
  case atStart => exact ⟨0, none, 0, by omega, rfl, rfl, rfl, Rd.of_nil _, Below.refl _ _⟩
  case round =>
    obtain ⟨x, ab, cb, hx, rfl, rfl, rfl, hRb, hBx⟩ := hrel
    by_cases hx6 : x < 6
    · have hx6' : (x : Int) < 6 := by omega
      go_wp2
      go_loopw [4, 5, 7] (fun s4 s5 s7 wr => ∃ (y : Nat) (ab : Option Addr) (cb : Nat), y ≤ x ∧ s7 = .int .i64 y ∧ s5 = .int .i64 (stS f x y).1 ∧ s4 = .slice ab (stS f x y).2.length cb ∧ Hid (Rd wr ab (stS f x y).2.length cb (toI (stS f x y).2)) ∧ Hid (Below w.heap.size w wr)) (fun _ _ v _ => x - (intOf v).toNat)
      case atStart => exact ⟨0, ab, cb, by omega, rfl, rfl, rfl, hRb, hBx⟩
      case round =>
        clear hRb hBx
        obtain ⟨y, ab, cb, hy, rfl, rfl, rfl, hRb, hBy⟩ := hrel
        by_cases hyx : y < x
        · have hyx' : (y : Int) < (x : Int) := by omega
          have TM := hide (twoOut_mem x hx6 y (by omega) (by omega))
          have HSY := hide (stS_y f x y)
          obtain ⟨sb1, sb2, sb3⟩ := SB.out x (by omega) y (by omega)
          obtain ⟨M, hM⟩ : ∃ M, (stS f x y).1 = M := ⟨_, rfl⟩
          obtain ⟨Bs, hBs⟩ : ∃ B, (stS f x y).2 = B := ⟨_, rfl⟩
          have hst : stS f x y = (M, Bs) := by rw [← hM, ← hBs]
          rw [hst] at HSY
          rw [hM] at sb1 sb2 ⊢
          rw [hBs] at sb3 hRb ⊢
          clear hst hM hBs
          obtain ⟨w2, hw2⟩ : ∃ w2 : World, w2 = wr := ⟨_, rfl⟩
          subst hw2
          go_wp2
          go_loopw [8, 9] (fun s v wr => ∃ (j : Nat), v = .int .i64 j ∧ j ≤ 6 ∧ (∃ ad cc, s = .slice ad (twoOut x y j).length cc) ∧ Hid (wr.ownsRow w2.heap.size 3 1 s (twoOut x y j).length ((toI (twoOut x y j)).map (Value.int .i64))) ∧ Hid (Below w2.heap.size w2 wr)) (fun _ v _ => 6 - (intOf v).toNat)
          case atStart => exact ⟨0, rfl, by omega, ⟨_, _, rfl⟩, World.ownsRow_nil _ _ _ _, Below.refl _ _⟩
          case round =>
            obtain ⟨j, rfl, hj, ⟨ad, cc, rfl⟩, hO, hB⟩ := hrel
            by_cases hlt : j < 6
            · have hlt' : (j : Int) < 6 := by omega
              have hps := twoOut_succ x y j
              by_cases hjx : j = x
              · rw [if_pos (.inl hjx), List.append_nil] at hps
                have HPS := hide hps
                have d1 : ((j : Int) != (x : Int)) = false := by simp; omega
                clear hps hjx
                go_wp2
                go_roundw
                case rel => exact ⟨j + 1, by go_num, by omega, ⟨ad, cc, by rw [HPS.out]⟩, by rw [HPS.out]; exact hO.out, hB.out⟩
                case measure => simp [intOf]; omega
              · have d1 : ((j : Int) != (x : Int)) = true := by simp; omega
                by_cases hjy : j = y
                · rw [if_pos (.inr hjy), List.append_nil] at hps
                  have HPS := hide hps
                  have d2 : ((j : Int) != (y : Int)) = false := by simp; omega
                  clear hps hjy
                  go_wp2
                  go_roundw
                  case rel => exact ⟨j + 1, by go_num, by omega, ⟨ad, cc, by rw [HPS.out]⟩, by rw [HPS.out]; exact hO.out, hB.out⟩
                  case measure => simp [intOf]; omega
                · rw [if_neg (by omega)] at hps
                  have HPS := hide hps
                  have d2 : ((j : Int) != (y : Int)) = true := by simp; omega
                  have hlen6 : (twoOut x y j).length ≤ 6 := by
                    refine Nat.le_trans (List.length_filter_le _ _) ?_
                    simp; omega
                  obtain ⟨T, hT⟩ : ∃ T, twoOut x y j = T := ⟨_, rfl⟩
                  rw [hT] at hO hlen6 HPS ⊢
                  clear hps hT
                  go_wp2_with (at_builtin; refine wpList_append_rd _ rfl (.tmp 33) (.tmp 35) rfl w2.heap.size _ T.length (toI T) rfl (hO.out.alloc _) _ 1 1 [(j : Int)] rfl (one_rd _ _) (by omega) (by have := hB.out.size; simp; omega) ?_)
                  intro v' w' hO' hG'
                  obtain ⟨a', c', hv'⟩ := form_slice hO'
                  rw [hv'] at hO' ⊢
                  have hb0 : Below w2.heap.size w2 (wr.alloc (.cells #[.int .i64 (j : Int)] 3)) := hB.out.alloc hB.out.size _
                  have HB' := hide (hb0.grown hG' hb0.size (fun j hj => (hO.out.lt j hj).1))
                  have HO' := hide hO'
                  clear hO' hG' hb0 hv'
                  go_wp2_with fail
                  go_roundw
                  case rel =>
                    refine ⟨j + 1, by go_num, by omega, ⟨a', c', by rw [HPS.out]; simp⟩, ?_, HB'.out⟩
                    have := HO'.out
                    rw [HPS.out]
                    simp only [toI, List.map_append, List.map_cons, List.map_nil, List.length_append, List.length_cons, List.length_nil, Nat.zero_add] at this ⊢
                    exact this
                  case measure => simp [intOf]; omega
            · obtain rfl : j = 6 := by omega
              rw [show (((6 : Nat)) : Int) = (6 : Int) from rfl]
              obtain ⟨w5, hw5⟩ : ∃ w5 : World, w5 = wr := ⟨_, rfl⟩
              subst hw5
              obtain ⟨t0, t1, t2, t3, hT, ht0, ht1, ht2, ht3⟩ := four_get _ TM.out
              have ht0' : (t0 : Int) < 6 := by omega
              have ht1' : (t1 : Int) < 6 := by omega
              have ht2' : (t2 : Int) < 6 := by omega
              have ht3' : (t3 : Int) < 6 := by omega
              have FT := hide (FS.out _ TM.out)
              have ST := hide (SL.out _ TM.out)
              have HFT := hide (HFS.out (twoOut x y 6))
              rw [hT] at hO FT ST HFT HSY ⊢
              have hRG := Rd.of_own hO.out
              obtain ⟨g, og, hag, hcg⟩ := hRG.cells (by simp)
              subst hag
              have HRG := hide hRG
              have HB5 := hide (hBy.out.trans (hB.out.mono hBy.out.size))
              have HRb5 := hide (hRb.out.mono hB.out)
              have HH5 := hide (HH.out.mono HB5.out)
              obtain ⟨v0, hv0⟩ : ∃ u, H.getD t0 0 = u := ⟨_, rfl⟩
              obtain ⟨v1, hv1⟩ : ∃ u, H.getD t1 0 = u := ⟨_, rfl⟩
              obtain ⟨v2, hv2⟩ : ∃ u, H.getD t2 0 = u := ⟨_, rfl⟩
              obtain ⟨v3, hv3⟩ : ∃ u, H.getD t3 0 = u := ⟨_, rfl⟩
              have hG : pick H [t0, t1, t2, t3] = [v0, v1, v2, v3] := by simp only [pick, List.map_cons, List.map_nil, hv0, hv1, hv2, hv3]
              rw [hG] at FT ST HFT
              have HKW : Hid (∀ W, Below w5.heap.size w5 W → W.cell? ⟨g, og, none⟩ = some (.int .i64 t0) ∧ W.cell? ⟨g, og + 1, none⟩ = some (.int .i64 t1) ∧ W.cell? ⟨g, og + 2, none⟩ = some (.int .i64 t2) ∧ W.cell? ⟨g, og + 3, none⟩ = some (.int .i64 t3) ∧
                  W.cell? ⟨b1, o1 + t0, none⟩ = some (.int .i64 v0) ∧ W.cell? ⟨b1, o1 + t1, none⟩ = some (.int .i64 v1) ∧ W.cell? ⟨b1, o1 + t2, none⟩ = some (.int .i64 v2) ∧ W.cell? ⟨b1, o1 + t3, none⟩ = some (.int .i64 v3)) := hide (fun W hW => by
                have gk : ∀ i, i < 4 → W.cell? ⟨g, og + i, none⟩ = some (.int .i64 ((toI [t0, t1, t2, t3]).getD i 0)) := fun i hi => (hW.cell (p := ⟨g, og + i, none⟩) (World.block_lt_of_cell? w5 _ (hcg i (by simpa using hi)))).trans (hcg i (by simpa using hi))
                have gh : ∀ i, i < 6 → W.cell? ⟨b1, o1 + i, none⟩ = some (.int .i64 (H.getD i 0 : Nat)) := fun i hi => by
                  have h1 := HC.out i hi
                  have h2 := (HB5.out.cell (p := ⟨b1, o1 + i, none⟩) (World.block_lt_of_cell? w _ h1)).trans h1
                  exact (hW.cell (p := ⟨b1, o1 + i, none⟩) (World.block_lt_of_cell? w5 _ h2)).trans h2
                have e0 := gh t0 ht0
                have e1 := gh t1 ht1
                have e2 := gh t2 ht2
                have e3 := gh t3 ht3
                rw [hv0] at e0
                rw [hv1] at e1
                rw [hv2] at e2
                rw [hv3] at e3
                exact ⟨gk 0 (by omega), gk 1 (by omega), gk 2 (by omega), gk 3 (by omega), e0, e1, e2, e3⟩)
              clear hT hv0 hv1 hv2 hv3 hG hcg hRG hO hB hRb hBy
              rw [show ([t0, t1, t2, t3] : List Nat).length = 4 from rfl] at HRG ⊢
              go_wp2
              go_loopw [10, 11] (fun s10 v wq => ∃ k : Nat, k ≤ 52 ∧ v = .int .i64 k ∧ s10 = .int .i64 (sumO [v0, v1, v2, v3] (toI H) k : Nat) ∧ Hid (Below w5.heap.size w5 wq)) (fun _ v _ => 52 - (intOf v).toNat)
              case atStart => exact ⟨0, by omega, rfl, rfl, Below.refl _ _⟩
              case round =>
                obtain ⟨k, hk, rfl, rfl, hBq⟩ := hrel
                have hsk := ST.out k hk
                obtain ⟨wq, hwq⟩ : ∃ wq : World, wq = wr := ⟨_, rfl⟩
                subst hwq
                by_cases hk52 : k < 52
                · have hk52' : (k : Int) < 52 := by omega
                  have SG := sumO_succ [v0, v1, v2, v3] (toI H) k
                  rw [contains_toI] at SG
                  have HSG := hide SG
                  clear SG
                  have AT := hide (at_any (some ⟨b1, o1, none⟩) 6 c (toI H) (k : Int) wq (HH5.out.mono hBq.out))
                  cases hin : H.contains k with
                  | true =>
                    rw [hin, if_pos rfl, Nat.add_zero] at HSG
                    have hmem : (k : Int) ∈ toI H := by have := contains_toI H k; rw [hin] at this; simpa using this
                    go_wp2_with fail
                    refine AT.out.mono ?_
                    rintro e w8 ⟨r, rfl, hr, hw8⟩
                    subst w8
                    have hr0 : ¬ r < 0 := by have := hr.2 hmem; omega
                    clear hr
                    go_wp2
                    go_roundw
                    case rel => exact ⟨k + 1, by omega, by go_num, by rw [HSG.out]; rfl, hBq⟩
                    case measure => simp [intOf]; omega
                  | false =>
                    rw [hin, if_neg (by simp)] at HSG
                    have hnm : ¬ (k : Int) ∈ toI H := by have := contains_toI H k; rw [hin] at this; simpa using this
                    obtain ⟨p1, p2, p3⟩ := FT.out k hk52 hin
                    have h29 := scN_le [v0, v1, v2, v3] k false p1 p2 p3
                    have SH := hide (ShowOf_any (some ⟨wq.heap.size, 0, none⟩) 5 [v0, v1, v2, v3, k] rfl (by simpa using p3) false _ (five_rd wq.drew v0 v1 v2 v3 k))
                    have hsr : shR [v0, v1, v2, v3, k] false = scN [v0, v1, v2, v3] k false := (score_ref [v0, v1, v2, v3] k false p1 (fun x hx => p3 x (by simp at hx ⊢; omega)) hk52 p2).symm
                    rw [hsr] at SH
                    obtain ⟨sc, hsc⟩ : ∃ s, scN [v0, v1, v2, v3] k false = s := ⟨_, rfl⟩
                    rw [hsc] at SH h29 HSG
                    obtain ⟨S0, hS0⟩ : ∃ s, sumO [v0, v1, v2, v3] (toI H) k = s := ⟨_, rfl⟩
                    rw [hS0] at hsk HSG ⊢
                    have HK := hide (fun W (hW : Below wq.heap.size wq W) => HKW.out W (hBq.out.trans (hW.mono hBq.out.size)))
                    clear p1 p2 p3 hsr hsc hS0 hin
                    go_wp2_with fail
                    refine AT.out.mono ?_
                    rintro e w8 ⟨r, rfl, hr, hw8⟩
                    subst w8
                    have hr0 : r < 0 := by
                      by_cases hh : r < 0
                      · exact hh
                      · exact absurd (hr.1 (by omega)) hnm
                    clear hr hnm AT
                    go_wp2_with fail
                    refine wp_region_held (S := fun W => Below wq.heap.size wq W) (by kernel_rfl) ?_
                    change wpAnyH _ _ _ _ _ _ _ _ (World.drew _)
                    have SW : Below wq.heap.size wq wq.drew := (Below.refl _ wq).drew
                    refine wpAnyH_take (i := 0) (v := .int .i64 S0) rfl (by kernel_rfl) (by kernel_rfl) (by kernel_rfl) (fun _ _ _ h => h) (Or.inl ⟨by rfl, ?_⟩) SW ?_
                    · intro W hW
                      go_simp
                    go_simp
                    refine wpAnyH_take (i := 1) (v := .slice (some ⟨b1, o1, none⟩) 6 c) rfl (by kernel_rfl) (by kernel_rfl) (by kernel_rfl) (fun _ _ _ h => h) (Or.inl ⟨by rfl, ?_⟩) SW ?_
                    · intro W hW
                      go_simp
                    go_simp
                    refine wpAnyH_take (i := 2) (v := .slice (some ⟨g, og, none⟩) 4 cc) rfl (by kernel_rfl) (by kernel_rfl) (by kernel_rfl) (fun _ _ _ h => h) (Or.inl ⟨by rfl, ?_⟩) SW ?_
                    · intro W hW
                      go_simp
                    go_simp
                    refine wpAnyH_take (i := 3) (v := .pointer (some ⟨g, og, none⟩)) rfl (by kernel_rfl) (by kernel_rfl) (by kernel_rfl) (fun _ _ _ h => h) (Or.inl ⟨by rfl, ?_⟩) SW ?_
                    · intro W hW
                      go_simp
                    go_simp
                    refine wpAnyH_take (i := 4) (v := .int .i64 t0) rfl (by kernel_rfl) (by kernel_rfl) (by kernel_rfl) (fun _ _ _ h => h) (Or.inl ⟨by rfl, ?_⟩) SW ?_
                    · intro W hW
                      obtain ⟨z0, z1, z2, z3, z4, z5, z6, z7⟩ := HK.out W hW
                      go_simp
                    go_simp
                    refine wpAnyH_take (i := 5) (v := .pointer (some ⟨b1, o1 + t0, none⟩)) rfl (by kernel_rfl) (by kernel_rfl) (by kernel_rfl) (fun _ _ _ h => h) (Or.inl ⟨by rfl, ?_⟩) SW ?_
                    · intro W hW
                      go_simp
                    go_simp
                    refine wpAnyH_take (i := 6) (v := .int .i64 v0) rfl (by kernel_rfl) (by kernel_rfl) (by kernel_rfl) (fun _ _ _ h => h) (Or.inl ⟨by rfl, ?_⟩) SW ?_
                    · intro W hW
                      obtain ⟨z0, z1, z2, z3, z4, z5, z6, z7⟩ := HK.out W hW
                      go_simp
                    go_simp
                    refine wpAnyH_take (i := 7) (v := .slice (some ⟨b1, o1, none⟩) 6 c) rfl (by kernel_rfl) (by kernel_rfl) (by kernel_rfl) (fun _ _ _ h => h) (Or.inl ⟨by rfl, ?_⟩) SW ?_
                    · intro W hW
                      go_simp
                    go_simp
                    refine wpAnyH_take (i := 8) (v := .slice (some ⟨g, og, none⟩) 4 cc) rfl (by kernel_rfl) (by kernel_rfl) (by kernel_rfl) (fun _ _ _ h => h) (Or.inl ⟨by rfl, ?_⟩) SW ?_
                    · intro W hW
                      go_simp
                    go_simp
                    refine wpAnyH_take (i := 9) (v := .pointer (some ⟨g, og + 1, none⟩)) rfl (by kernel_rfl) (by kernel_rfl) (by kernel_rfl) (fun _ _ _ h => h) (Or.inl ⟨by rfl, ?_⟩) SW ?_
                    · intro W hW
                      go_simp
                    go_simp
                    refine wpAnyH_take (i := 10) (v := .int .i64 t1) rfl (by kernel_rfl) (by kernel_rfl) (by kernel_rfl) (fun _ _ _ h => h) (Or.inl ⟨by rfl, ?_⟩) SW ?_
                    · intro W hW
                      obtain ⟨z0, z1, z2, z3, z4, z5, z6, z7⟩ := HK.out W hW
                      go_simp
                    go_simp
                    refine wpAnyH_take (i := 11) (v := .pointer (some ⟨b1, o1 + t1, none⟩)) rfl (by kernel_rfl) (by kernel_rfl) (by kernel_rfl) (fun _ _ _ h => h) (Or.inl ⟨by rfl, ?_⟩) SW ?_
                    · intro W hW
                      go_simp
                    go_simp
                    refine wpAnyH_take (i := 12) (v := .int .i64 v1) rfl (by kernel_rfl) (by kernel_rfl) (by kernel_rfl) (fun _ _ _ h => h) (Or.inl ⟨by rfl, ?_⟩) SW ?_
                    · intro W hW
                      obtain ⟨z0, z1, z2, z3, z4, z5, z6, z7⟩ := HK.out W hW
                      go_simp
                    go_simp
                    refine wpAnyH_take (i := 13) (v := .slice (some ⟨b1, o1, none⟩) 6 c) rfl (by kernel_rfl) (by kernel_rfl) (by kernel_rfl) (fun _ _ _ h => h) (Or.inl ⟨by rfl, ?_⟩) SW ?_
                    · intro W hW
                      go_simp
                    go_simp
                    refine wpAnyH_take (i := 14) (v := .slice (some ⟨g, og, none⟩) 4 cc) rfl (by kernel_rfl) (by kernel_rfl) (by kernel_rfl) (fun _ _ _ h => h) (Or.inl ⟨by rfl, ?_⟩) SW ?_
                    · intro W hW
                      go_simp
                    go_simp
                    refine wpAnyH_take (i := 15) (v := .pointer (some ⟨g, og + 2, none⟩)) rfl (by kernel_rfl) (by kernel_rfl) (by kernel_rfl) (fun _ _ _ h => h) (Or.inl ⟨by rfl, ?_⟩) SW ?_
                    · intro W hW
                      go_simp
                    go_simp
                    refine wpAnyH_take (i := 16) (v := .int .i64 t2) rfl (by kernel_rfl) (by kernel_rfl) (by kernel_rfl) (fun _ _ _ h => h) (Or.inl ⟨by rfl, ?_⟩) SW ?_
                    · intro W hW
                      obtain ⟨z0, z1, z2, z3, z4, z5, z6, z7⟩ := HK.out W hW
                      go_simp
                    go_simp
                    refine wpAnyH_take (i := 17) (v := .pointer (some ⟨b1, o1 + t2, none⟩)) rfl (by kernel_rfl) (by kernel_rfl) (by kernel_rfl) (fun _ _ _ h => h) (Or.inl ⟨by rfl, ?_⟩) SW ?_
                    · intro W hW
                      go_simp
                    go_simp
                    refine wpAnyH_take (i := 18) (v := .int .i64 v2) rfl (by kernel_rfl) (by kernel_rfl) (by kernel_rfl) (fun _ _ _ h => h) (Or.inl ⟨by rfl, ?_⟩) SW ?_
                    · intro W hW
                      obtain ⟨z0, z1, z2, z3, z4, z5, z6, z7⟩ := HK.out W hW
                      go_simp
                    go_simp
                    refine wpAnyH_take (i := 19) (v := .slice (some ⟨b1, o1, none⟩) 6 c) rfl (by kernel_rfl) (by kernel_rfl) (by kernel_rfl) (fun _ _ _ h => h) (Or.inl ⟨by rfl, ?_⟩) SW ?_
                    · intro W hW
                      go_simp
                    go_simp
                    refine wpAnyH_take (i := 20) (v := .slice (some ⟨g, og, none⟩) 4 cc) rfl (by kernel_rfl) (by kernel_rfl) (by kernel_rfl) (fun _ _ _ h => h) (Or.inl ⟨by rfl, ?_⟩) SW ?_
                    · intro W hW
                      go_simp
                    go_simp
                    refine wpAnyH_take (i := 21) (v := .pointer (some ⟨g, og + 3, none⟩)) rfl (by kernel_rfl) (by kernel_rfl) (by kernel_rfl) (fun _ _ _ h => h) (Or.inl ⟨by rfl, ?_⟩) SW ?_
                    · intro W hW
                      go_simp
                    go_simp
                    refine wpAnyH_take (i := 22) (v := .int .i64 t3) rfl (by kernel_rfl) (by kernel_rfl) (by kernel_rfl) (fun _ _ _ h => h) (Or.inl ⟨by rfl, ?_⟩) SW ?_
                    · intro W hW
                      obtain ⟨z0, z1, z2, z3, z4, z5, z6, z7⟩ := HK.out W hW
                      go_simp
                    go_simp
                    refine wpAnyH_take (i := 23) (v := .pointer (some ⟨b1, o1 + t3, none⟩)) rfl (by kernel_rfl) (by kernel_rfl) (by kernel_rfl) (fun _ _ _ h => h) (Or.inl ⟨by rfl, ?_⟩) SW ?_
                    · intro W hW
                      go_simp
                    go_simp
                    refine wpAnyH_take (i := 24) (v := .int .i64 v3) rfl (by kernel_rfl) (by kernel_rfl) (by kernel_rfl) (fun _ _ _ h => h) (Or.inl ⟨by rfl, ?_⟩) SW ?_
                    · intro W hW
                      obtain ⟨z0, z1, z2, z3, z4, z5, z6, z7⟩ := HK.out W hW
                      go_simp
                    go_simp
                    refine wpAnyH_take (i := 25) (v := .int .i64 k) rfl (by kernel_rfl) (by kernel_rfl) (by kernel_rfl) (fun _ _ _ h => h) (Or.inl ⟨by rfl, ?_⟩) SW ?_
                    · intro W hW
                      go_simp
                    go_simp
                    refine wpAnyH_ready (rs := [26]) (by kernel_rfl) (by simp) ?_
                    refine AllReadyH.cons rfl (fun K1 hK1 => ?_) AllReadyH.nil
                    go_simp
                    refine hK1.out _ _ (SW.alloc SW.size _) (fun SW2 => ?_)
                    clear hK1 K1 SW
                    have SW := SW2
                    clear SW2
                    go_simp
                    refine wpAnyH_ready (rs := [27]) (by kernel_rfl) (by simp) ?_
                    refine AllReadyH.cons rfl (fun K1 hK1 => ?_) AllReadyH.nil
                    go_simp
                    refine SH.out.mono ?_
                    rintro e w8 ⟨rfl, q8, hw8⟩
                    have SW8 : Below wq.heap.size wq w8 := by rw [hw8]; exact SW.trans (drewN_below _ _ _)
                    refine hK1.out _ _ SW8 (fun SW9 => ?_)
                    clear hK1 K1 SW SW8 hw8
                    have SW := SW9
                    clear SW9
                    go_simp
                    refine wpAnyH_take (i := 28) (v := .int .i64 ((S0 : Int) + sc)) rfl (by kernel_rfl) (by kernel_rfl) (by kernel_rfl) (fun _ _ _ h => h) (Or.inl ⟨by rfl, ?_⟩) SW ?_
                    · intro W hW
                      go_simp
                      rw [IntKind.wrap_i64]; omega
                    go_simp
                    refine wpAnyH_take (i := 29) (v := .int .i64 ((S0 : Int) + sc)) rfl (by kernel_rfl) (by kernel_rfl) (by kernel_rfl) (fun _ _ _ h => h) (Or.inl ⟨by rfl, ?_⟩) SW ?_
                    · intro W hW
                      go_simp
                    go_simp
                    refine wpAnyH_done (by kernel_rfl) ?_ _
                    have HSW := hide (hBq.out.trans (SW.mono hBq.out.size))
                    clear SW
                    go_wp2
                    go_roundw
                    case rel => exact ⟨k + 1, by omega, by go_num, by rw [HSG.out]; go_num, HSW⟩
                    case measure => simp [intOf]; omega
                · obtain rfl : k = 52 := by omega
                  rw [show (((52 : Nat)) : Int) = (52 : Int) from rfl]
                  rw [← HFT.out] at hsk ⊢
                  obtain ⟨F, hF⟩ : ∃ F, f [t0, t1, t2, t3] = F := ⟨_, rfl⟩
                  have HSR : Hid (stS f x (y + 1) = if M < (F : Int) ∨ (M = (F : Int) ∧ lexI (toI [t0, t1, t2, t3]) (toI Bs) = true) then ((F : Int), [t0, t1, t2, t3]) else (M, Bs)) := hide (by rw [HSY.out, refS, hF])
                  rw [hF] at hsk ⊢
                  have LE := hide (less_any (some ⟨g, og, none⟩) 4 cc (toI [t0, t1, t2, t3]) ab Bs.length cb (toI Bs) wq (HRG.out.mono hBq.out) (HRb5.out.mono hBq.out))
                  have HRq := hide (HRG.out.mono hBq.out)
                  have HRbq := hide (HRb5.out.mono hBq.out)
                  have HBq := hide (HB5.out.trans (hBq.out.mono HB5.out.size))
                  clear hF HFT HSY hBq
                  by_cases h1 : M < (F : Int)
                  · have d1 : decide (M < (F : Int)) = true := by simp; omega
                    have HU : Hid (stS f x (y + 1) = ((F : Int), [t0, t1, t2, t3])) := hide (by rw [HSR.out, if_pos (Or.inl h1)])
                    go_wp2
                    go_roundw
                    case rel => exact ⟨y + 1, some ⟨g, og, none⟩, cc, by omega, by go_num, by rw [HU.out], by rw [HU.out]; rfl, by rw [HU.out]; exact HRq.out, HBq⟩
                    case measure => simp [intOf]; omega
                  · have d1 : decide (M < (F : Int)) = false := by simp; omega
                    by_cases h2 : M = (F : Int)
                    · subst h2
                      have b2 : ((F : Int) == (F : Int)) = true := by simp
                      cases hle : lexI (toI [t0, t1, t2, t3]) (toI Bs) with
                      | true =>
                        rw [hle] at LE
                        have HU : Hid (stS f x (y + 1) = ((F : Int), [t0, t1, t2, t3])) := hide (by rw [HSR.out, if_pos (Or.inr ⟨rfl, hle⟩)])
                        clear hle HSR
                        go_wp2_with fail
                        refine LE.out.mono ?_
                        rintro e w8 ⟨rfl, q8, hw8⟩
                        have HRq8 := hide (HRq.out.mono (drewN_below _ wq q8))
                        have HBq8 := hide (HBq.out.trans (drewN_below _ wq q8))
                        rw [← hw8] at HRq8 HBq8
                        clear hw8
                        go_wp2
                        go_roundw
                        case rel => exact ⟨y + 1, some ⟨g, og, none⟩, cc, by omega, by go_num, by rw [HU.out], by rw [HU.out]; rfl, by rw [HU.out]; exact HRq8.out, HBq8⟩
                        case measure => simp [intOf]; omega
                      | false =>
                        rw [hle] at LE
                        have HU : Hid (stS f x (y + 1) = ((F : Int), Bs)) := hide (by rw [HSR.out, if_neg (by rw [hle]; simp)])
                        clear hle HSR
                        go_wp2_with fail
                        refine LE.out.mono ?_
                        rintro e w8 ⟨rfl, q8, hw8⟩
                        have HRq8 := hide (HRbq.out.mono (drewN_below _ wq q8))
                        have HBq8 := hide (HBq.out.trans (drewN_below _ wq q8))
                        rw [← hw8] at HRq8 HBq8
                        clear hw8
                        go_wp2
                        go_roundw
                        case rel => exact ⟨y + 1, ab, cb, by omega, by go_num, by rw [HU.out], by rw [HU.out], by rw [HU.out]; exact HRq8.out, HBq8⟩
                        case measure => simp [intOf]; omega
                    · have b2 : ((F : Int) == M) = false := by simp; omega
                      have HU : Hid (stS f x (y + 1) = (M, Bs)) := hide (by rw [HSR.out, if_neg (by omega)])
                      go_wp2
                      go_roundw
                      case rel => exact ⟨y + 1, ab, cb, by omega, by go_num, by rw [HU.out], by rw [HU.out], by rw [HU.out]; exact HRbq.out, HBq⟩
                      case measure => simp [intOf]; omega
        · obtain rfl : y = x := by omega
          have hyx' : ¬ (y : Int) < (y : Int) := by omega
          have HSX := hide (stS_x f y)
          go_wp2
          go_roundw
          case rel =>
            refine ⟨y + 1, ab, cb, by omega, by go_num, ?_, ?_, ?_, hBy⟩
            · rw [HSX.out]
            · rw [HSX.out]
            · rw [HSX.out]; exact hRb
          case measure => simp [intOf]; omega
    · obtain rfl : x = 6 := by omega
      rw [HEND.out] at hRb ⊢
      obtain ⟨M, hM⟩ : ∃ M, (refSets.foldl (refS f) (-1, [])).1 = M := ⟨_, rfl⟩
      obtain ⟨t0, t1, t2, t3, hT, ht0, ht1, ht2, ht3⟩ := four_get _ HIN.out
      rw [hM]
      rw [hT] at hRb ⊢
      have ht0' : (t0 : Int) < 6 := by omega
      have ht1' : (t1 : Int) < 6 := by omega
      have ht2' : (t2 : Int) < 6 := by omega
      have ht3' : (t3 : Int) < 6 := by omega
      obtain ⟨g, og, hag, hcg⟩ := hRb.out.cells (by simp)
      subst hag
      obtain ⟨v0, hv0⟩ : ∃ u, H.getD t0 0 = u := ⟨_, rfl⟩
      obtain ⟨v1, hv1⟩ : ∃ u, H.getD t1 0 = u := ⟨_, rfl⟩
      obtain ⟨v2, hv2⟩ : ∃ u, H.getD t2 0 = u := ⟨_, rfl⟩
      obtain ⟨v3, hv3⟩ : ∃ u, H.getD t3 0 = u := ⟨_, rfl⟩
      have hG : pick H [t0, t1, t2, t3] = [v0, v1, v2, v3] := by simp only [pick, List.map_cons, List.map_nil, hv0, hv1, hv2, hv3]
      have F4 := hide (four_rd wr.drew v0 v1 v2 v3)
      have HK : Hid (∀ W, Below wr.heap.size wr W → W.cell? ⟨g, og, none⟩ = some (.int .i64 t0) ∧ W.cell? ⟨g, og + 1, none⟩ = some (.int .i64 t1) ∧ W.cell? ⟨g, og + 2, none⟩ = some (.int .i64 t2) ∧ W.cell? ⟨g, og + 3, none⟩ = some (.int .i64 t3) ∧
          W.cell? ⟨b1, o1 + t0, none⟩ = some (.int .i64 v0) ∧ W.cell? ⟨b1, o1 + t1, none⟩ = some (.int .i64 v1) ∧ W.cell? ⟨b1, o1 + t2, none⟩ = some (.int .i64 v2) ∧ W.cell? ⟨b1, o1 + t3, none⟩ = some (.int .i64 v3)) := hide (fun W hW => by
        have gk : ∀ i, i < 4 → W.cell? ⟨g, og + i, none⟩ = some (.int .i64 ((toI [t0, t1, t2, t3]).getD i 0)) := fun i hi => (hW.cell (p := ⟨g, og + i, none⟩) (World.block_lt_of_cell? wr _ (hcg i (by simpa using hi)))).trans (hcg i (by simpa using hi))
        have gh : ∀ i, i < 6 → W.cell? ⟨b1, o1 + i, none⟩ = some (.int .i64 (H.getD i 0 : Nat)) := fun i hi => by
          have h1 := HC.out i hi
          have h2 := (hBx.out.cell (p := ⟨b1, o1 + i, none⟩) (World.block_lt_of_cell? w _ h1)).trans h1
          exact (hW.cell (p := ⟨b1, o1 + i, none⟩) (World.block_lt_of_cell? wr _ h2)).trans h2
        have e0 := gh t0 ht0
        have e1 := gh t1 ht1
        have e2 := gh t2 ht2
        have e3 := gh t3 ht3
        rw [hv0] at e0
        rw [hv1] at e1
        rw [hv2] at e2
        rw [hv3] at e3
        exact ⟨gk 0 (by omega), gk 1 (by omega), gk 2 (by omega), gk 3 (by omega), e0, e1, e2, e3⟩)
      have HM := hide hM
      have HTT := hide hT
      have HGG := hide hG
      clear hM hv0 hv1 hv2 hv3 hcg hRb HIN HEND SB hG hT
      rw [show ([t0, t1, t2, t3] : List Nat).length = 4 from rfl]
      go_wp2_with fail
      refine wp_region_held (S := fun W => Below wr.heap.size wr W) (by kernel_rfl) ?_
      change wpAnyH _ _ _ _ _ _ _ _ (World.drew _)
      have SW : Below wr.heap.size wr wr.drew := (Below.refl _ wr).drew
      refine wpAnyH_take (i := 0) (v := .slice (some ⟨b1, o1, none⟩) 6 c) rfl (by kernel_rfl) (by kernel_rfl) (by kernel_rfl) (fun _ _ _ h => h) (Or.inl ⟨by rfl, ?_⟩) SW ?_
      · intro W hW
        go_simp
      go_simp
      refine wpAnyH_take (i := 1) (v := .slice (some ⟨g, og, none⟩) 4 cb) rfl (by kernel_rfl) (by kernel_rfl) (by kernel_rfl) (fun _ _ _ h => h) (Or.inl ⟨by rfl, ?_⟩) SW ?_
      · intro W hW
        go_simp
      go_simp
      refine wpAnyH_take (i := 2) (v := .pointer (some ⟨g, og, none⟩)) rfl (by kernel_rfl) (by kernel_rfl) (by kernel_rfl) (fun _ _ _ h => h) (Or.inl ⟨by rfl, ?_⟩) SW ?_
      · intro W hW
        go_simp
      go_simp
      refine wpAnyH_take (i := 3) (v := .int .i64 t0) rfl (by kernel_rfl) (by kernel_rfl) (by kernel_rfl) (fun _ _ _ h => h) (Or.inl ⟨by rfl, ?_⟩) SW ?_
      · intro W hW
        obtain ⟨z0, z1, z2, z3, z4, z5, z6, z7⟩ := HK.out W hW
        go_simp
      go_simp
      refine wpAnyH_take (i := 4) (v := .pointer (some ⟨b1, o1 + t0, none⟩)) rfl (by kernel_rfl) (by kernel_rfl) (by kernel_rfl) (fun _ _ _ h => h) (Or.inl ⟨by rfl, ?_⟩) SW ?_
      · intro W hW
        go_simp
      go_simp
      refine wpAnyH_take (i := 5) (v := .int .i64 v0) rfl (by kernel_rfl) (by kernel_rfl) (by kernel_rfl) (fun _ _ _ h => h) (Or.inl ⟨by rfl, ?_⟩) SW ?_
      · intro W hW
        obtain ⟨z0, z1, z2, z3, z4, z5, z6, z7⟩ := HK.out W hW
        go_simp
      go_simp
      refine wpAnyH_take (i := 6) (v := .slice (some ⟨b1, o1, none⟩) 6 c) rfl (by kernel_rfl) (by kernel_rfl) (by kernel_rfl) (fun _ _ _ h => h) (Or.inl ⟨by rfl, ?_⟩) SW ?_
      · intro W hW
        go_simp
      go_simp
      refine wpAnyH_take (i := 7) (v := .slice (some ⟨g, og, none⟩) 4 cb) rfl (by kernel_rfl) (by kernel_rfl) (by kernel_rfl) (fun _ _ _ h => h) (Or.inl ⟨by rfl, ?_⟩) SW ?_
      · intro W hW
        go_simp
      go_simp
      refine wpAnyH_take (i := 8) (v := .pointer (some ⟨g, og + 1, none⟩)) rfl (by kernel_rfl) (by kernel_rfl) (by kernel_rfl) (fun _ _ _ h => h) (Or.inl ⟨by rfl, ?_⟩) SW ?_
      · intro W hW
        go_simp
      go_simp
      refine wpAnyH_take (i := 9) (v := .int .i64 t1) rfl (by kernel_rfl) (by kernel_rfl) (by kernel_rfl) (fun _ _ _ h => h) (Or.inl ⟨by rfl, ?_⟩) SW ?_
      · intro W hW
        obtain ⟨z0, z1, z2, z3, z4, z5, z6, z7⟩ := HK.out W hW
        go_simp
      go_simp
      refine wpAnyH_take (i := 10) (v := .pointer (some ⟨b1, o1 + t1, none⟩)) rfl (by kernel_rfl) (by kernel_rfl) (by kernel_rfl) (fun _ _ _ h => h) (Or.inl ⟨by rfl, ?_⟩) SW ?_
      · intro W hW
        go_simp
      go_simp
      refine wpAnyH_take (i := 11) (v := .int .i64 v1) rfl (by kernel_rfl) (by kernel_rfl) (by kernel_rfl) (fun _ _ _ h => h) (Or.inl ⟨by rfl, ?_⟩) SW ?_
      · intro W hW
        obtain ⟨z0, z1, z2, z3, z4, z5, z6, z7⟩ := HK.out W hW
        go_simp
      go_simp
      refine wpAnyH_take (i := 12) (v := .slice (some ⟨b1, o1, none⟩) 6 c) rfl (by kernel_rfl) (by kernel_rfl) (by kernel_rfl) (fun _ _ _ h => h) (Or.inl ⟨by rfl, ?_⟩) SW ?_
      · intro W hW
        go_simp
      go_simp
      refine wpAnyH_take (i := 13) (v := .slice (some ⟨g, og, none⟩) 4 cb) rfl (by kernel_rfl) (by kernel_rfl) (by kernel_rfl) (fun _ _ _ h => h) (Or.inl ⟨by rfl, ?_⟩) SW ?_
      · intro W hW
        go_simp
      go_simp
      refine wpAnyH_take (i := 14) (v := .pointer (some ⟨g, og + 2, none⟩)) rfl (by kernel_rfl) (by kernel_rfl) (by kernel_rfl) (fun _ _ _ h => h) (Or.inl ⟨by rfl, ?_⟩) SW ?_
      · intro W hW
        go_simp
      go_simp
      refine wpAnyH_take (i := 15) (v := .int .i64 t2) rfl (by kernel_rfl) (by kernel_rfl) (by kernel_rfl) (fun _ _ _ h => h) (Or.inl ⟨by rfl, ?_⟩) SW ?_
      · intro W hW
        obtain ⟨z0, z1, z2, z3, z4, z5, z6, z7⟩ := HK.out W hW
        go_simp
      go_simp
      refine wpAnyH_take (i := 16) (v := .pointer (some ⟨b1, o1 + t2, none⟩)) rfl (by kernel_rfl) (by kernel_rfl) (by kernel_rfl) (fun _ _ _ h => h) (Or.inl ⟨by rfl, ?_⟩) SW ?_
      · intro W hW
        go_simp
      go_simp
      refine wpAnyH_take (i := 17) (v := .int .i64 v2) rfl (by kernel_rfl) (by kernel_rfl) (by kernel_rfl) (fun _ _ _ h => h) (Or.inl ⟨by rfl, ?_⟩) SW ?_
      · intro W hW
        obtain ⟨z0, z1, z2, z3, z4, z5, z6, z7⟩ := HK.out W hW
        go_simp
      go_simp
      refine wpAnyH_take (i := 18) (v := .slice (some ⟨b1, o1, none⟩) 6 c) rfl (by kernel_rfl) (by kernel_rfl) (by kernel_rfl) (fun _ _ _ h => h) (Or.inl ⟨by rfl, ?_⟩) SW ?_
      · intro W hW
        go_simp
      go_simp
      refine wpAnyH_take (i := 19) (v := .slice (some ⟨g, og, none⟩) 4 cb) rfl (by kernel_rfl) (by kernel_rfl) (by kernel_rfl) (fun _ _ _ h => h) (Or.inl ⟨by rfl, ?_⟩) SW ?_
      · intro W hW
        go_simp
      go_simp
      refine wpAnyH_take (i := 20) (v := .pointer (some ⟨g, og + 3, none⟩)) rfl (by kernel_rfl) (by kernel_rfl) (by kernel_rfl) (fun _ _ _ h => h) (Or.inl ⟨by rfl, ?_⟩) SW ?_
      · intro W hW
        go_simp
      go_simp
      refine wpAnyH_take (i := 21) (v := .int .i64 t3) rfl (by kernel_rfl) (by kernel_rfl) (by kernel_rfl) (fun _ _ _ h => h) (Or.inl ⟨by rfl, ?_⟩) SW ?_
      · intro W hW
        obtain ⟨z0, z1, z2, z3, z4, z5, z6, z7⟩ := HK.out W hW
        go_simp
      go_simp
      refine wpAnyH_take (i := 22) (v := .pointer (some ⟨b1, o1 + t3, none⟩)) rfl (by kernel_rfl) (by kernel_rfl) (by kernel_rfl) (fun _ _ _ h => h) (Or.inl ⟨by rfl, ?_⟩) SW ?_
      · intro W hW
        go_simp
      go_simp
      refine wpAnyH_take (i := 23) (v := .int .i64 v3) rfl (by kernel_rfl) (by kernel_rfl) (by kernel_rfl) (fun _ _ _ h => h) (Or.inl ⟨by rfl, ?_⟩) SW ?_
      · intro W hW
        obtain ⟨z0, z1, z2, z3, z4, z5, z6, z7⟩ := HK.out W hW
        go_simp
      go_simp
      refine wpAnyH_take (i := 25) (v := .int .i64 M) rfl (by kernel_rfl) (by kernel_rfl) (by kernel_rfl) (fun _ _ _ h => h) (Or.inl ⟨by rfl, ?_⟩) SW ?_
      · intro W hW
        go_simp
      go_simp
      refine wpAnyH_ready (rs := [24]) (by kernel_rfl) (by simp) ?_
      refine AllReadyH.cons rfl (fun K1 hK1 => ?_) AllReadyH.nil
      go_simp
      refine hK1.out _ _ (SW.alloc SW.size _) (fun SW2 => ?_)
      clear hK1 K1 SW
      have SW := SW2
      clear SW2
      go_simp
      refine wpAnyH_take (i := 26) (v := .slice (some ⟨wr.heap.size, 0, none⟩) 4 4) rfl (by kernel_rfl) (by kernel_rfl) (by kernel_rfl) (fun _ _ _ h => h) (Or.inl ⟨by rfl, ?_⟩) SW ?_
      · intro W hW
        go_simp
      go_simp
      refine wpAnyH_take (i := 27) (v := .int .i64 M) rfl (by kernel_rfl) (by kernel_rfl) (by kernel_rfl) (fun _ _ _ h => h) (Or.inl ⟨by rfl, ?_⟩) SW ?_
      · intro W hW
        go_simp
      go_simp
      refine wpAnyH_done (by kernel_rfl) ?_ _
      have HSW := hide (hBx.out.trans (SW.mono hBx.out.size))
      clear SW
      go_wp2
      go_ret2
      exact ⟨some ⟨wr.heap.size, 0, none⟩, 4, by rw [HM.out]; rfl, by rw [HTT.out, HGG.out]; exact F4.out, HSW.out⟩

end Go.Proofs.Ytneafmjbekafmaa
