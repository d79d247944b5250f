/-
  What the reference's HandValue answers. No conditions beyond those that each theorem bears.
-/
import Derived.Test.YtdhacmcdbpojlaaRefDef
import Derived.Deep.Cut
import Derived.Deep.CutRange
import Derived.Deep.DeepCutAuto
namespace Go.Proofs.Ytdhacmcdbpojlaa
open Go.RowKit Go.Shelf

/-- As far as the first k cards go, all are of the first one's suit. -/
def flU (h : List Nat) : Nat → Bool
  | 0 => true
  | k + 1 => flU h k && decide (h.getD k 0 % 4 = h.getD 0 0 % 4)

theorem flU_eq (a b c d e : Nat) : flU [a, b, c, d, e] 5 = flN a b c d e := by
  simp [flU, flN, Bool.and_assoc, Bool.decide_and]

theorem ret_int' {x y : Int} (h : x = y) : Ending.returned (.int .i64 x) = .returned (.int .i64 y) := by rw [h]

theorem Rd_one (w : World) (x : Int) : Rd (w.alloc (.cells #[.int .i64 x] 3)) (some ⟨w.heap.size, 0, none⟩) 1 1 [x] := by
  refine ⟨rfl, Nat.le_refl _, by unfold maxLen; omega, (fun h => by simp at h), fun _ => ⟨w.heap.size, 0, rfl, fun i hi => ?_⟩⟩
  obtain rfl : i = 0 := by omega
  simp

theorem slice_form {w : World} {base : Nat} {v : Value} {n : Nat} {xs : List Value} (h : w.ownsRow base 3 1 v n xs) : ∃ a c, v = .slice a n c := by
  rcases h.2 with ⟨hv, h0⟩ | ⟨g, cap, cur, hv, _⟩
  · exact ⟨none, 0, by rw [hv, h0]⟩
  · exact ⟨_, _, hv⟩

theorem sgAt_len (T : List Nat) (m j : Nat) : (sgAt T m j).length ≤ j := by
  induction j with
  | zero => exact Nat.le_refl _
  | succ j ih =>
    rw [sgAt, List.length_append]
    have : (if T.getD (12 - j) 0 = m then [12 - j] else []).length ≤ 1 := by split <;> simp
    omega
theorem sgUp_len (T : List Nat) (i : Nat) : (sgUp T i).length ≤ 13 * i := by
  induction i with
  | zero => exact Nat.le_refl _
  | succ i ih =>
    rw [sgUp, List.length_append]
    have := sgAt_len T (4 - i) 13
    omega

theorem topUp_bd (T : List Nat) (i : Nat) : -1 ≤ topUp T i ∧ topUp T i ≤ 2 + (i : Int) := by
  induction i with
  | zero => simp [topUp]
  | succ i ih =>
    rw [topUp]
    split
    · constructor <;> omega
    · constructor <;> omega

theorem clsR_le (fl : Bool) (top : Int) (m0 m1 : Nat) : clsR fl top m0 m1 ≤ 8 := by
  unfold clsR
  repeat' split
  all_goals omega

theorem digits_snoc (c : Nat) (l : List Nat) (x : Nat) : digits c (l ++ [x]) = digits c l * 13 + x := by simp [digits]

theorem digits_lt (c : Nat) (l : List Nat) (h : ∀ x ∈ l, x < 13) : digits c l < (c + 1) * 13 ^ l.length := by
  induction l generalizing c with
  | nil => simp [digits]
  | cons y l ih =>
    have h1 := ih (c * 13 + y) (fun x hx => h x (by simp [hx]))
    have hy := h y (by simp)
    have e : digits c (y :: l) = digits (c * 13 + y) l := rfl
    rw [e, List.length_cons, Nat.pow_succ]
    refine Nat.lt_of_lt_of_le h1 ?_
    have h2 : c * 13 + y + 1 ≤ (c + 1) * 13 := by omega
    calc (c * 13 + y + 1) * 13 ^ l.length ≤ ((c + 1) * 13) * 13 ^ l.length := Nat.mul_le_mul_right _ h2
      _ = (c + 1) * (13 ^ l.length * 13) := by rw [Nat.mul_assoc, Nat.mul_comm 13]

theorem own_new (w : World) (base : Nat) (hb : base ≤ w.heap.size) (x : Int) : (w.alloc (.cells #[.int .i64 x] 3)).ownsRow base 3 1 (.slice (some ⟨w.heap.size, 0, none⟩) 1 1) 1 ([x].map (Value.int .i64)) :=
  ⟨rfl, .inr ⟨w.heap.size, 1, #[.int .i64 x], rfl, hb, World.alloc_heap_new w _, Nat.le_refl _, by unfold maxLen; omega, rfl, rfl⟩⟩

def lenOf : Value → Nat
  | .slice _ n _ => n
  | _ => 0

theorem mod4 (x : Nat) : (x : Int) % 4 = ((x % 4 : Nat) : Int) := by omega

set_option maxRecDepth 100000 in
set_option maxHeartbeats 8000000 in
theorem HandValue_any (x : Option Addr) (cp a b c d e : Nat) (hlt : ∀ z ∈ [a, b, c, d, e], z < 52) (hG : GoodT (mny [a, b, c, d, e])) (w : World) (hRd : Rd w x 5 cp (toI [a, b, c, d, e])) :
    Calls Try.prog 26 #[.slice x 5 cp] w fun r w' => r = .returned (.int .i64 (refF (flN a b c d e) (mny [a, b, c, d, e]))) ∧ Below w.heap.size w w' := by
  obtain ⟨i0, hi, hz0, hz1, hz2⟩ := info_parts Try.info3
  have hmm : 13 ≤ maxLen := by unfold maxLen; omega
  have hby : i0.bytes * 13 ≤ 281474976710656 := by rw [hz2]; omega
  obtain ⟨bx, ox, rfl, hcx⟩ := hRd.cells (by omega)
  have hbl : bx < w.heap.size := World.block_lt_of_cell? w _ (hcx 0 (by omega))
  have hcp := hRd.cap
  have hcm := hRd.max
  unfold maxLen at hcm
  have HCX := hide hcx
  have HG := hide hG
  clear hcx hG hRd
  go_enter Try.func26, Try.ntmps26
  go_wp2_with (at_make; refine wpList_make_full w rfl _ _ 22 rfl w.heap.size 3 i0 (.int .i64 0) 1 Try.underlying22 hi hz0 hz1 _ _ _ _ 13 rfl rfl (by omega) (by omega) hby hmm (Nat.le_refl _) ?_)
  intro w1 hown hgrow
  have hb1 : Below w.heap.size w w1 := (Below.refl _ _).grown hgrow (Nat.le_refl _) (fun k hk => by simp at hk)
  rw [made_ints] at hown
  have hr0 : List.replicate 13 (0 : Int) = toI (List.replicate 13 0) := rfl
  rw [hr0] at hown
  have HO1 := hide hown
  have HB1 := hide hb1
  clear hgrow hown hb1 hr0 hmm hby hi hz0 hz1 hz2
  go_wp2
  go_loopw [4, 5] (fun f v wr => ∃ (k : Nat) (T : List Nat), f = .bool (flU [a, b, c, d, e] k) ∧ v = .int .i64 k ∧ k ≤ 5 ∧ Hid (wr.ownsRow w.heap.size 3 1 (.slice (some ⟨w.heap.size, 0, none⟩) 13 13) 13 ((toI T).map (Value.int .i64))) ∧ Hid (T.length = 13) ∧ Hid (∀ r, r < 13 → T.getD r 0 = cntR ([a, b, c, d, e].take k) r) ∧ Hid (Below w.heap.size w wr)) (fun _ v _ => 5 - (intOf v).toNat)
  case atStart => exact ⟨0, _, rfl, rfl, by omega, HO1.out, rfl, fun r hr => by rw [rep0]; simp [cntR], HB1.out⟩
  case round =>
    obtain ⟨k, T, rfl, rfl, hk, hO, hTl, hTc, hB⟩ := hrel
    by_cases hk5 : k < 5
    · obtain ⟨q, hq⟩ : ∃ q, [a, b, c, d, e].getD k 0 = q := ⟨_, rfl⟩
      have hq52 : q < 52 := by rw [← hq]; exact hlt _ (by simp [List.getD, hk5])
      have ha52 : a < 52 := hlt a (by simp)
      have c1 : wr.cell? ⟨bx, ox + k, none⟩ = some (.int .i64 q) := by
        rw [hB.out.cell (p := ⟨bx, ox + k, none⟩) hbl, HCX.out k hk5, toI_getD, hq]
      have c0 : wr.cell? ⟨bx, ox, none⟩ = some (.int .i64 a) := by
        have := HCX.out 0 (by omega)
        rw [toI_getD] at this
        rw [hB.out.cell (p := ⟨bx, ox, none⟩) hbl]
        simpa using this
      obtain ⟨r, hr⟩ : ∃ r, q / 4 = r := ⟨_, rfl⟩
      have hd := div4 q
      rw [hr] at hd
      have hr13 : r < 13 := by omega
      obtain ⟨c2, f2⟩ := own_cell hO.out r hr13
      rw [toI_getD] at c2
      obtain ⟨m, hm⟩ : ∃ m, T.getD r 0 = m := ⟨_, rfl⟩
      have hm5 : m ≤ 5 := by
        rw [← hm, hTc.out r hr13, cntR]
        refine Nat.le_trans List.count_le_length ?_
        rw [List.length_map, List.length_take]
        exact Nat.min_le_right _ _
      rw [hm] at c2
      have hne : ¬ bx = w.heap.size := by omega
      obtain ⟨mq, hmq⟩ : ∃ mq, q % 4 = mq := ⟨_, rfl⟩
      obtain ⟨ma, hma⟩ : ∃ ma, a % 4 = ma := ⟨_, rfl⟩
      have e1 := mod4 q
      have e2 := mod4 a
      rw [hmq] at e1
      rw [hma] at e2
      have HO2 : Hid (∀ m', (wr.setCell ⟨w.heap.size, r, none⟩ (.int .i64 ((m : Int) + 1))).drewN m' |>.ownsRow w.heap.size 3 1 (.slice (some ⟨w.heap.size, 0, none⟩) 13 13) 13 ((toI (T.set r (m + 1))).map (Value.int .i64))) := by
        intro m'
        have h1 := own_set hO.out r ((m : Int) + 1)
        have h2 := toI_set T r (m + 1)
        rw [show ((m + 1 : Nat) : Int) = (m : Int) + 1 by omega] at h2
        rw [h2] at h1
        exact ownK h1 (Keeps.of_all (X := fun _ => False) (drewN_below _ _ m')) (fun _ h => h.elim)
      have HB2 : Hid (∀ m', Below w.heap.size w ((wr.setCell ⟨w.heap.size, r, none⟩ (.int .i64 ((m : Int) + 1))).drewN m')) := fun m' => (hB.out.setCell (p := ⟨w.heap.size, r, none⟩) (Nat.le_refl _) _).trans (drewN_below _ _ _)
      have HT2 : Hid (∀ r', r' < 13 → (T.set r (m + 1)).getD r' 0 = cntR ([a, b, c, d, e].take (k + 1)) r') := by
        intro r' hr'
        rw [getD_setN _ _ _ _ (by rw [hTl.out]; exact hr13), take_snoc _ _ (by simp; omega), hq, cntR_snoc, hr]
        by_cases e' : r' = r
        · subst e'; rw [if_pos rfl, if_pos rfl, ← hTc.out _ hr13, hm]
        · rw [if_neg e', if_neg (fun h => e' h.symm)]; exact hTc.out r' hr'
      have HTL2 : Hid ((T.set r (m + 1)).length = 13) := by show _ = _; rw [List.length_set]; exact hTl.out
      have HFL : Hid (flU [a, b, c, d, e] (k + 1) = (flU [a, b, c, d, e] k && decide (mq = ma))) := by
        show _ = _
        rw [flU, hq, show [a, b, c, d, e].getD 0 0 = a from rfl, hmq, hma]
      have hlt' : (k : Int) < 5 := by omega
      clear hq hr hm hmq hma hTl hTc hO
      cases hfl : flU [a, b, c, d, e] k with
      | false =>
        rw [hfl] at HFL
        clear hfl
        go_wp2
        go_quiet (fail)
        go_wp2
        refine ⟨⟨k + 1, _, by rw [HFL.out]; rfl, by go_num, by omega, HO2.out _, HTL2.out, HT2.out, HB2.out _⟩, by simp [intOf]; omega⟩
      | true =>
        rw [hfl] at HFL
        clear hfl
        by_cases hee : mq = ma
        · have hbb : ((mq : Int) == (ma : Int)) = true := by simp; omega
          have HFL2 : Hid (flU [a, b, c, d, e] (k + 1) = true) := by show _ = _; rw [HFL.out]; simp [hee]
          clear hee
          go_wp2
          go_quiet (fail)
          go_wp2
          refine ⟨⟨k + 1, _, by rw [HFL2.out], by go_num, by omega, HO2.out _, HTL2.out, HT2.out, HB2.out _⟩, by simp [intOf]; omega⟩
        · have hbb : ((mq : Int) == (ma : Int)) = false := by simp; omega
          have HFL2 : Hid (flU [a, b, c, d, e] (k + 1) = false) := by show _ = _; rw [HFL.out]; simp [hee]
          clear hee
          go_wp2
          go_quiet (fail)
          go_wp2
          refine ⟨⟨k + 1, _, by rw [HFL2.out], by go_num, by omega, HO2.out _, HTL2.out, HT2.out, HB2.out _⟩, by simp [intOf]; omega⟩
    · obtain rfl : k = 5 := by omega
      have eT : T = mny [a, b, c, d, e] := by
        apply list_ext
        · rw [hTl.out]; simp [mny]
        · intro r hr
          rw [hTl.out] at hr
          rw [hTc.out r hr]
          simp [mny, List.getD, hr]
      subst eT
      rw [flU_eq, show (((5 : Nat)) : Int) = (5 : Int) from rfl]
      obtain ⟨T, hT⟩ : ∃ T, mny [a, b, c, d, e] = T := ⟨_, rfl⟩
      obtain ⟨fl, hfl⟩ : ∃ fl, flN a b c d e = fl := ⟨_, rfl⟩
      have HTE := hide hT
      have HFE := hide hfl
      rw [hT] at hO HG
      rw [hfl]
      have MC : Hid (∀ r, r < 13 → wr.cell? ⟨w.heap.size, r, none⟩ = some (.int .i64 (T.getD r 0))) := fun r hr => by rw [(own_cell hO.out r hr).1, toI_getD]
      have HSZ2 : Hid (w.heap.size < wr.heap.size) := World.block_lt_of_cell? wr _ (MC.out 0 (by omega))
      obtain ⟨w2, rfl⟩ : ∃ w2, w2 = wr := ⟨_, rfl⟩
      clear hT hfl hO hTl hTc HO1 HB1 HCX hlt hbl hcp hcm hk hk5
      go_wp2
      go_loopw [6, 7] (fun s v wr => ∃ (i : Nat), Hid (i ≤ 4) ∧ v = .int .i64 (4 - (i : Int)) ∧ (∃ ad cc, s = .slice ad (sgUp T i).length cc) ∧ Hid (wr.ownsRow w2.heap.size 3 1 s (sgUp T i).length ((toI (sgUp T i)).map (Value.int .i64))) ∧ Hid (Below w2.heap.size w2 wr)) (fun _ v _ => (intOf v).toNat)
      case atStart => exact ⟨0, Nat.zero_le _, rfl, ⟨_, _, rfl⟩, World.ownsRow_nil _ _ _ _, Below.refl _ _⟩
      case round =>
        obtain ⟨i, hi4, rfl, ⟨ad, cc, rfl⟩, hO, hBB⟩ := hrel
        have hi4' := hi4.out
        by_cases hi : i < 4
        · obtain ⟨tm, htm⟩ : ∃ tm, 4 - i = tm := ⟨_, rfl⟩
          have htm' : (4 : Int) - (i : Int) = (tm : Int) := by omega
          have htp : 0 < tm := by omega
          have htp4 : tm ≤ 4 := by omega
          rw [htm']
          clear htm'
          go_wp2
          go_loopw [6, 8] (fun s v wq => ∃ (j : Nat), Hid (j ≤ 13) ∧ v = .int .i64 (12 - (j : Int)) ∧ (∃ ad cc, s = .slice ad (sgUp T i ++ sgAt T tm j).length cc) ∧ Hid (wq.ownsRow w2.heap.size 3 1 s (sgUp T i ++ sgAt T tm j).length ((toI (sgUp T i ++ sgAt T tm j)).map (Value.int .i64))) ∧ Hid (Below w2.heap.size w2 wq)) (fun _ v _ => (intOf v + 1).toNat)
          case atStart => exact ⟨0, Nat.zero_le _, rfl, ⟨ad, cc, by simp [sgAt]⟩, hide (by simpa [sgAt] using hO.out), hBB.out⟩
          case round =>
            obtain ⟨j, hj13, rfl, ⟨ad, cc, rfl⟩, hO, hBB⟩ := hrel
            have hj13' := hj13.out
            by_cases hj : j < 13
            · obtain ⟨r, hr⟩ : ∃ r, 12 - j = r := ⟨_, rfl⟩
              have hr' : (12 : Int) - (j : Int) = (r : Int) := by omega
              have hr13 : r < 13 := by omega
              rw [hr']
              clear hr'
              have c1 : wr.cell? ⟨w.heap.size, r, none⟩ = some (.int .i64 (T.getD r 0)) := (hBB.out.cell (p := ⟨w.heap.size, r, none⟩) HSZ2.out).trans (MC.out r hr13)
              obtain ⟨m, hm⟩ : ∃ m, T.getD r 0 = m := ⟨_, rfl⟩
              rw [hm] at c1
              obtain ⟨L, hL⟩ : ∃ L, sgUp T i ++ sgAt T tm j = L := ⟨_, rfl⟩
              have hLn : sgUp T i ++ sgAt T tm (j + 1) = L ++ (if m = tm then [r] else []) := by
                rw [sgAt, hr, hm, ← hL, List.append_assoc]
              have hLl : L.length ≤ 200 := by
                rw [← hL, List.length_append]
                have h1 := sgAt_len T tm j
                have h2 := sgUp_len T i
                omega
              rw [hL] at hO ⊢
              have HLN := hide hLn
              have HRR := hide hr
              clear hLn hL
              by_cases hmt : m = tm
              · have hbb : ((m : Int) == (tm : Int)) = true := by simp; omega
                have HLN2 : Hid (sgUp T i ++ sgAt T tm (j + 1) = L ++ [r]) := by show _ = _; rw [HLN.out, if_pos hmt]
                clear hmt hm hr
                go_wp2_with (at_builtin; refine wpList_append_rd _ rfl (.tmp 58) (.tmp 60) rfl w2.heap.size _ L.length (toI L) rfl (hO.out.alloc _) _ 1 1 [(r : Int)] rfl (Rd_one _ _) (by omega) (by have := hBB.out.size; simp; omega) ?_)
                intro v' w' hO' hG'
                obtain ⟨a', c', hv'⟩ := slice_form hO'
                rw [hv'] at hO' ⊢
                have hb0 : Below w2.heap.size w2 (wr.alloc (.cells #[.int .i64 (r : Int)] 3)) := hBB.out.alloc hBB.out.size _
                have HB' := hide (hb0.grown hG' hb0.size (fun j hj => (hO.out.lt j hj).1))
                have HO' := hide hO'
                clear hO' hG' hb0 hv'
                go_wp2_with fail
                go_roundw
                case rel =>
                  refine ⟨j + 1, (by omega : j + 1 ≤ 13), by rw [show (12 : Int) - ((j + 1 : Nat) : Int) = (r : Int) - 1 by have := HRR.out; omega], ⟨a', c', by rw [HLN2.out]; simp⟩, ?_, HB'.out⟩
                  rw [HLN2.out]
                  have := HO'.out
                  simp only [toI, List.map_append, List.map_cons, List.map_nil, List.length_append, List.length_cons, List.length_nil, Nat.zero_add] at this ⊢
                  exact this
                case measure => simp [intOf]
              · have hbb : ((m : Int) == (tm : Int)) = false := by simp; omega
                have HLN2 : Hid (sgUp T i ++ sgAt T tm (j + 1) = L) := by show _ = _; rw [HLN.out, if_neg hmt, List.append_nil]
                clear hmt hm hr
                go_wp2
                refine ⟨⟨j + 1, (by omega : j + 1 ≤ 13), by congr 1; have := HRR.out; omega, ⟨ad, cc, by rw [HLN2.out]⟩, ?_, hBB.out⟩, by simp [intOf]⟩
                rw [HLN2.out]
                exact hO.out
            · obtain rfl : j = 13 := by omega
              have HTM := hide htm
              clear htm
              go_wp2
              refine ⟨⟨i + 1, (by omega : i + 1 ≤ 4), by congr 1; have := HTM.out; omega, ⟨ad, cc, by rw [sgUp, HTM.out]⟩, ?_, hBB.out⟩, by simp [intOf]; omega⟩
              rw [sgUp, HTM.out]
              exact hO.out
        · obtain rfl : i = 4 := by omega
          obtain ⟨w3, rfl⟩ : ∃ w3, w3 = wr := ⟨_, rfl⟩
          have MC3 : Hid (∀ r, r < 13 → w3.cell? ⟨w.heap.size, r, none⟩ = some (.int .i64 (T.getD r 0))) := fun r hr => (hBB.out.cell (p := ⟨w.heap.size, r, none⟩) HSZ2.out).trans (MC.out r hr)
          have HB3 : Hid (Below w.heap.size w w3) := hB.out.trans (hBB.out.mono (Nat.le_of_lt HSZ2.out))
          have HLE := hide HG.out.le
          go_wp2
          go_loop [9, 10] (fun t v => ∃ i : Nat, i ≤ 10 ∧ t = .int .i64 (topUp T i) ∧ v = .int .i64 (3 + (i : Int))) (fun _ v => 13 - (intOf v).toNat)
          case atStart => exact ⟨0, by omega, rfl, rfl⟩
          case round =>
            obtain ⟨i, hi10, rfl, rfl⟩ := hrel
            by_cases hi : i < 10
            · obtain ⟨r, hr⟩ : ∃ r, 3 + i = r := ⟨_, rfl⟩
              have hr' : (3 : Int) + (i : Int) = (r : Int) := by omega
              have hr13 : r < 13 := by omega
              rw [hr']
              clear hr'
              have hr13' : (r : Int) < 13 := by omega
              have HRR := hide hr
              clear hr
              obtain ⟨tp, htp⟩ : ∃ tp, topUp T i = tp := ⟨_, rfl⟩
              rw [htp]
              have HTP := hide htp
              clear htp
              go_wp2
              go_loop [11, 12] (fun f v => ∃ k : Nat, k ≤ 5 ∧ f = .bool (isStr T r k) ∧ v = .int .i64 k) (fun _ v => 5 - (intOf v).toNat)
              case atStart => exact ⟨0, by omega, rfl, rfl⟩
              case round =>
                obtain ⟨k, hk5, rfl, rfl⟩ := hrel
                by_cases hk : k < 5
                · obtain ⟨q, hq⟩ : ∃ q, (r + 13 - k) % 13 = q := ⟨_, rfl⟩
                  have hq' : ((r : Int) - (k : Int) + 13) % 13 = (q : Int) := by omega
                  have hq13 : q < 13 := by omega
                  have c1 := MC3.out q hq13
                  obtain ⟨m, hm⟩ : ∃ m, T.getD q 0 = m := ⟨_, rfl⟩
                  rw [hm] at c1
                  have hIS : isStr T r (k + 1) = (isStr T r k && decide (m = 1)) := by rw [isStr, hq, hm]
                  have hk' : (k : Int) < 5 := by omega
                  clear hq hm
                  cases hb : isStr T r k with
                  | false =>
                    rw [hb] at hIS
                    have HIS := hide hIS
                    clear hIS hb
                    go_wp2
                    go_round
                    case rel => exact ⟨k + 1, by omega, by rw [HIS.out]; rfl, by go_num⟩
                    case measure => simp [intOf]; omega
                  | true =>
                    rw [hb] at hIS
                    clear hb
                    by_cases hm1 : m = 1
                    · have HIS : Hid (isStr T r (k + 1) = true) := by show _ = _; rw [hIS]; simp [hm1]
                      subst hm1
                      clear hIS
                      go_wp2
                      go_round
                      case rel => exact ⟨k + 1, by omega, by rw [HIS.out], by go_num⟩
                      case measure => simp [intOf]; omega
                    · have HIS : Hid (isStr T r (k + 1) = false) := by show _ = _; rw [hIS]; simp [hm1]
                      have hbb : ((m : Int) == 1) = false := by simp; omega
                      clear hIS
                      go_wp2
                      go_round
                      case rel => exact ⟨k + 1, by omega, by rw [HIS.out], by go_num⟩
                      case measure => simp [intOf]; omega
                · obtain rfl : k = 5 := by omega
                  have hTU : topUp T (i + 1) = if isStr T r 5 = true then (r : Int) else tp := by rw [topUp, HRR.out, HTP.out]
                  cases hb : isStr T r 5 with
                  | true =>
                    rw [hb, if_pos rfl] at hTU
                    have HTU := hide hTU
                    clear hTU hb
                    go_wp2
                    go_round
                    case rel => exact ⟨i + 1, by omega, by rw [HTU.out], by rw [show (3 : Int) + ((i + 1 : Nat) : Int) = (r : Int) + 1 by have := HRR.out; omega]⟩
                    case measure => simp [intOf]; omega
                  | false =>
                    rw [hb, if_neg (by simp)] at hTU
                    have HTU := hide hTU
                    clear hTU hb
                    go_wp2
                    go_round
                    case rel => exact ⟨i + 1, by omega, by rw [HTU.out], by rw [show (3 : Int) + ((i + 1 : Nat) : Int) = (r : Int) + 1 by have := HRR.out; omega]⟩
                    case measure => simp [intOf]; omega
            · obtain rfl : i = 10 := by omega
              rw [show (3 : Int) + ((10 : Nat) : Int) = 13 from rfl]
              obtain ⟨bd1, bd2⟩ := topUp_bd T 10
              obtain ⟨tp, htp⟩ : ∃ tp, topUp T 10 = tp := ⟨_, rfl⟩
              rw [htp] at bd1 bd2 ⊢
              have HTP := hide htp
              obtain ⟨L, hL⟩ : ∃ L, sgUp T 4 = L := ⟨_, rfl⟩
              have HLL := hide hL
              have g1 := HG.out.pos
              have g2 := HG.out.five
              have g3 := HG.out.two
              have g4 := HG.out.lt
              rw [hL] at g1 g2 g3 g4 hO ⊢
              obtain ⟨s0, hs0⟩ : ∃ s0, L.getD 0 0 = s0 := ⟨_, rfl⟩
              obtain ⟨s1, hs1⟩ : ∃ s1, L.getD 1 0 = s1 := ⟨_, rfl⟩
              obtain ⟨m0, hm0⟩ : ∃ m0, T.getD s0 0 = m0 := ⟨_, rfl⟩
              obtain ⟨m1, hm1⟩ : ∃ m1, T.getD s1 0 = m1 := ⟨_, rfl⟩
              rw [hs0, hm0] at g3
              have RL := Rd.of_own hO.out
              obtain ⟨bs, os, hads, hcs⟩ := RL.cells g1
              have d0 := hcs 0 g1
              rw [toI_getD, hs0] at d0
              have hs13 : s0 < 13 := by rw [← hs0]; exact g4 _ (by simp [List.getD, g1])
              have c0 := MC3.out s0 hs13
              rw [hm0] at c0
              have d1 : 1 < L.length → w3.cell? ⟨bs, os + 1, none⟩ = some (.int .i64 s1) ∧ w3.cell? ⟨w.heap.size, s1, none⟩ = some (.int .i64 m1) ∧ s1 < 13 := by
                intro h1
                have h2 := hcs 1 h1
                rw [toI_getD, hs1] at h2
                have h3 : s1 < 13 := by rw [← hs1]; exact g4 _ (by simp [List.getD, h1])
                have h4 := MC3.out s1 h3
                rw [hm1] at h4
                exact ⟨h2, h4, h3⟩
              subst hads
              rw [Nat.add_zero] at d0
              have HVV : Hid (refF (flN a b c d e) (mny [a, b, c, d, e]) = digits (clsR fl tp m0 m1) (pad5 (if 0 ≤ tp then [tp.toNat] else L))) := by
                show _ = _
                rw [HTE.out, HFE.out, refF, HTP.out, HLL.out, hs0, hs1, hm0, hm1]
              have G3 := hide g3
              have G4 := hide g4
              have D1 := hide d1
              clear htp hL g3 g4 d1 hs0 hs1 hm0 hm1 hcs RL HTE HFE HTP HLL MC HLE HG
              go_upto_region 29 with fail
              go_cut [88] (fun s wc => s = .bool (decide ((0 : Int) ≤ tp) && fl) ∧ wc = w3)
              case first =>
                by_cases ht0 : 0 ≤ tp
                · have htq : (decide ((0 : Int) ≤ tp)) = true := by simp; omega
                  go_wp2
                  go_meet
                  case rel => exact ⟨by rw [htq]; rfl, rfl⟩
                · have htq : (decide ((0 : Int) ≤ tp)) = false := by simp; omega
                  go_wp2
                  go_meet
                  case rel => exact ⟨by rw [htq]; rfl, rfl⟩
              case rest =>
                obtain ⟨rfl, hwc⟩ := hcut
                have hwc' := hwc.symm
                subst hwc'
                clear hwc
                go_upto_if 88 with fail
                go_cut [13] (fun s wc => s = .int .i64 (clsR fl tp m0 m1) ∧ wc = w3)
                case first =>
                  cases fl with
                  | true =>
                    by_cases ht0 : 0 ≤ tp
                    · have htq : (decide ((0 : Int) ≤ tp)) = true := by simp; omega
                      rw [htq]
                      have HC : Hid (clsR true tp m0 m1 = 8) := by show _ = _; simp [clsR, ht0]
                      go_wp2
                      go_meet
                      case rel => exact ⟨by rw [HC.out]; rfl, rfl⟩
                    · have htr : (decide ((0 : Int) ≤ tp) && true) = false := by simp; omega
                      have htq : (decide ((0 : Int) ≤ tp)) = false := by simp; omega
                      rw [htr]
                      by_cases h4 : m0 = 4
                      · have b4 : ((m0 : Int) == 4) = true := by simp [*]
                        have HC : Hid (clsR true tp m0 m1 = 7) := by show _ = _; simp [clsR, h4, ht0]
                        go_wp2
                        go_meet
                        case rel => exact ⟨by rw [HC.out]; rfl, rfl⟩
                      · have b4 : ((m0 : Int) == 4) = false := by simp; omega
                        by_cases h3 : m0 = 3
                        · obtain ⟨d1, c1, hs1⟩ := D1.out (G3.out (.inl h3))
                          have hl1 : 1 < L.length := G3.out (.inl h3)
                          have b3 : ((m0 : Int) == 3) = true := by simp [*]
                          by_cases h2 : m1 = 2
                          · have bm : ((m1 : Int) == 2) = true := by simp [*]
                            have HC : Hid (clsR true tp m0 m1 = 6) := by show _ = _; simp [clsR, h3, h2, ht0]
                            go_wp2
                            go_meet
                            case rel => exact ⟨by rw [HC.out]; rfl, rfl⟩
                          · have bm : ((m1 : Int) == 2) = false := by simp; omega
                            have HC : Hid (clsR true tp m0 m1 = 5) := by show _ = _; simp [clsR, h3, h2, ht0]
                            go_wp2
                            go_meet
                            case rel => exact ⟨by rw [HC.out]; rfl, rfl⟩
                        · have b3 : ((m0 : Int) == 3) = false := by simp; omega
                          by_cases h2 : m0 = 2
                          · obtain ⟨d1, c1, hs1⟩ := D1.out (G3.out (.inr h2))
                            have hl1 : 1 < L.length := G3.out (.inr h2)
                            have b2 : ((m0 : Int) == 2) = true := by simp [*]
                            by_cases h22 : m1 = 2
                            · have bm : ((m1 : Int) == 2) = true := by simp [*]
                              have HC : Hid (clsR true tp m0 m1 = 5) := by show _ = _; simp [clsR, h2, h22, ht0]
                              go_wp2
                              go_meet
                              case rel => exact ⟨by rw [HC.out]; rfl, rfl⟩
                            · have bm : ((m1 : Int) == 2) = false := by simp; omega
                              have HC : Hid (clsR true tp m0 m1 = 5) := by show _ = _; simp [clsR, h2, h22, ht0]
                              go_wp2
                              go_meet
                              case rel => exact ⟨by rw [HC.out]; rfl, rfl⟩
                          · have b2 : ((m0 : Int) == 2) = false := by simp; omega
                            have HC : Hid (clsR true tp m0 m1 = 5) := by show _ = _; simp [clsR, h4, h3, ht0]
                            go_wp2
                            go_meet
                            case rel => exact ⟨by rw [HC.out]; rfl, rfl⟩
                  | false =>
                    have htr : (decide ((0 : Int) ≤ tp) && false) = false := by simp
                    rw [htr]
                    by_cases ht0 : 0 ≤ tp
                    · have htq : (decide ((0 : Int) ≤ tp)) = true := by simp; omega
                      by_cases h4 : m0 = 4
                      · have b4 : ((m0 : Int) == 4) = true := by simp [*]
                        have HC : Hid (clsR false tp m0 m1 = 7) := by show _ = _; simp [clsR, h4, ht0]
                        go_wp2
                        go_meet
                        case rel => exact ⟨by rw [HC.out]; rfl, rfl⟩
                      · have b4 : ((m0 : Int) == 4) = false := by simp; omega
                        by_cases h3 : m0 = 3
                        · obtain ⟨d1, c1, hs1⟩ := D1.out (G3.out (.inl h3))
                          have hl1 : 1 < L.length := G3.out (.inl h3)
                          have b3 : ((m0 : Int) == 3) = true := by simp [*]
                          by_cases h2 : m1 = 2
                          · have bm : ((m1 : Int) == 2) = true := by simp [*]
                            have HC : Hid (clsR false tp m0 m1 = 6) := by show _ = _; simp [clsR, h3, h2, ht0]
                            go_wp2
                            go_meet
                            case rel => exact ⟨by rw [HC.out]; rfl, rfl⟩
                          · have bm : ((m1 : Int) == 2) = false := by simp; omega
                            have HC : Hid (clsR false tp m0 m1 = 4) := by show _ = _; simp [clsR, h3, h2, ht0]
                            go_wp2
                            go_meet
                            case rel => exact ⟨by rw [HC.out]; rfl, rfl⟩
                        · have b3 : ((m0 : Int) == 3) = false := by simp; omega
                          by_cases h2 : m0 = 2
                          · obtain ⟨d1, c1, hs1⟩ := D1.out (G3.out (.inr h2))
                            have hl1 : 1 < L.length := G3.out (.inr h2)
                            have b2 : ((m0 : Int) == 2) = true := by simp [*]
                            by_cases h22 : m1 = 2
                            · have bm : ((m1 : Int) == 2) = true := by simp [*]
                              have HC : Hid (clsR false tp m0 m1 = 4) := by show _ = _; simp [clsR, h2, h22, ht0]
                              go_wp2
                              go_meet
                              case rel => exact ⟨by rw [HC.out]; rfl, rfl⟩
                            · have bm : ((m1 : Int) == 2) = false := by simp; omega
                              have HC : Hid (clsR false tp m0 m1 = 4) := by show _ = _; simp [clsR, h2, h22, ht0]
                              go_wp2
                              go_meet
                              case rel => exact ⟨by rw [HC.out]; rfl, rfl⟩
                          · have b2 : ((m0 : Int) == 2) = false := by simp; omega
                            have HC : Hid (clsR false tp m0 m1 = 4) := by show _ = _; simp [clsR, h4, h3, ht0]
                            go_wp2
                            go_meet
                            case rel => exact ⟨by rw [HC.out]; rfl, rfl⟩
                    · have htq : (decide ((0 : Int) ≤ tp)) = false := by simp; omega
                      by_cases h4 : m0 = 4
                      · have b4 : ((m0 : Int) == 4) = true := by simp [*]
                        have HC : Hid (clsR false tp m0 m1 = 7) := by show _ = _; simp [clsR, h4, ht0]
                        go_wp2
                        go_meet
                        case rel => exact ⟨by rw [HC.out]; rfl, rfl⟩
                      · have b4 : ((m0 : Int) == 4) = false := by simp; omega
                        by_cases h3 : m0 = 3
                        · obtain ⟨d1, c1, hs1⟩ := D1.out (G3.out (.inl h3))
                          have hl1 : 1 < L.length := G3.out (.inl h3)
                          have b3 : ((m0 : Int) == 3) = true := by simp [*]
                          by_cases h2 : m1 = 2
                          · have bm : ((m1 : Int) == 2) = true := by simp [*]
                            have HC : Hid (clsR false tp m0 m1 = 6) := by show _ = _; simp [clsR, h3, h2, ht0]
                            go_wp2
                            go_meet
                            case rel => exact ⟨by rw [HC.out]; rfl, rfl⟩
                          · have bm : ((m1 : Int) == 2) = false := by simp; omega
                            have HC : Hid (clsR false tp m0 m1 = 3) := by show _ = _; simp [clsR, h3, h2, ht0]
                            go_wp2
                            go_meet
                            case rel => exact ⟨by rw [HC.out]; rfl, rfl⟩
                        · have b3 : ((m0 : Int) == 3) = false := by simp; omega
                          by_cases h2 : m0 = 2
                          · obtain ⟨d1, c1, hs1⟩ := D1.out (G3.out (.inr h2))
                            have hl1 : 1 < L.length := G3.out (.inr h2)
                            have b2 : ((m0 : Int) == 2) = true := by simp [*]
                            by_cases h22 : m1 = 2
                            · have bm : ((m1 : Int) == 2) = true := by simp [*]
                              have HC : Hid (clsR false tp m0 m1 = 2) := by show _ = _; simp [clsR, h2, h22, ht0]
                              go_wp2
                              go_meet
                              case rel => exact ⟨by rw [HC.out]; rfl, rfl⟩
                            · have bm : ((m1 : Int) == 2) = false := by simp; omega
                              have HC : Hid (clsR false tp m0 m1 = 1) := by show _ = _; simp [clsR, h2, h22, ht0]
                              go_wp2
                              go_meet
                              case rel => exact ⟨by rw [HC.out]; rfl, rfl⟩
                          · have b2 : ((m0 : Int) == 2) = false := by simp; omega
                            have HC : Hid (clsR false tp m0 m1 = 0) := by show _ = _; simp [clsR, h4, h3, h2, ht0]
                            go_wp2
                            go_meet
                            case rel => exact ⟨by rw [HC.out]; rfl, rfl⟩
                case rest =>
                  obtain ⟨rfl, hwc⟩ := hcut
                  have hwc' := hwc.symm
                  subst hwc'
                  clear hwc
                  have cl8 := clsR_le fl tp m0 m1
                  obtain ⟨cl, hcl⟩ : ∃ cl, clsR fl tp m0 m1 = cl := ⟨_, rfl⟩
                  rw [hcl] at cl8 HVV ⊢
                  clear hcl D1 G3 d0 c0
                  have HSZ3 : Hid (w2.heap.size ≤ w3.heap.size) := hBB.out.size
                  have HSW : Hid (w.heap.size ≤ w2.heap.size) := Nat.le_of_lt HSZ2.out
                  go_upto_if 146 with fail
                  go_cut [6] (fun s wc => ∃ (L0 : List Nat) (ad : Option Addr) (cc : Nat), s = .slice ad L0.length cc ∧ Hid (wc.ownsRow w2.heap.size 3 1 (.slice ad L0.length cc) L0.length ((toI L0).map (Value.int .i64))) ∧ Hid (Below w.heap.size w wc) ∧ Hid (w2.heap.size ≤ wc.heap.size) ∧ Hid (L0 = if 0 ≤ tp then [tp.toNat] else L) ∧ L0.length ≤ 5 ∧ Hid (∀ s ∈ L0, s < 13))
                  case first =>
                    by_cases ht0 : 0 ≤ tp
                    · have htq : (decide ((0 : Int) ≤ tp)) = true := by simp; omega
                      have HON := hide (own_new w3 w2.heap.size HSZ3.out tp)
                      have HT1 : Hid (toI [tp.toNat] = [tp]) := by show _ = _; simp [toI]; omega
                      go_wp2
                      go_meet
                      case rel =>
                        refine ⟨[tp.toNat], _, _, rfl, ?_, HB3.out.alloc HB3.out.size _, ?_, ?_, by simp, ?_⟩
                        · show World.ownsRow _ _ _ _ _ _ _
                          rw [HT1.out]; exact HON.out
                        · show _ ≤ _
                          have := HSZ3.out; simp; omega
                        · show _ = _
                          rw [if_pos (by omega)]
                        · intro s hs; simp at hs; omega
                    · have htq : (decide ((0 : Int) ≤ tp)) = false := by simp; omega
                      go_wp2
                      go_meet
                      case rel =>
                        refine ⟨L, _, _, rfl, hO.out, HB3.out, HSZ3.out, ?_, g2, G4.out⟩
                        show _ = _
                        rw [if_neg (by omega)]
                  case rest =>
                    obtain ⟨L0, ad0, cc0, rfl, hO0, hB0, hS0, hL0, p5, hlt0⟩ := hcut
                    clear hO HB3 G4 MC3 hBB HSZ3
                    go_wp2
                    go_loopw [6] (fun s wr => ∃ (m : Nat) (ad : Option Addr) (cc : Nat), s = .slice ad (L0.length + m) cc ∧ L0.length + m ≤ 5 ∧ Hid (wr.ownsRow w2.heap.size 3 1 (.slice ad (L0.length + m) cc) (L0.length + m) ((toI (L0 ++ List.replicate m 0)).map (Value.int .i64))) ∧ Hid (Below w.heap.size w wr) ∧ Hid (w2.heap.size ≤ wr.heap.size)) (fun s _ => 5 - lenOf s)
                    case atStart => exact ⟨0, ad0, cc0, rfl, p5, hide (by simpa using hO0.out), hB0.out, hS0.out⟩
                    case round =>
                      obtain ⟨m, ad, cc, rfl, hm5, hO, hB', hS'⟩ := hrel
                      by_cases hlt5 : L0.length + m < 5
                      · have hlt5' : ((L0.length + m : Nat) : Int) < 5 := by omega
                        obtain ⟨n, hn⟩ : ∃ n, L0.length + m = n := ⟨_, rfl⟩
                        rw [hn] at hO hm5 hlt5 hlt5' ⊢
                        have HN := hide hn
                        clear hn
                        go_wp2_with (at_builtin; refine wpList_append_rd _ rfl (.tmp 152) (.tmp 153) rfl w2.heap.size _ n (toI (L0 ++ List.replicate m 0)) rfl (hO.out.alloc _) _ 1 1 [(0 : Int)] rfl (Rd_one _ _) (by omega) (by have := hS'.out; simp; omega) ?_)
                        intro v' w' hO' hG'
                        obtain ⟨a', c', hv'⟩ := slice_form hO'
                        rw [hv'] at hO' ⊢
                        have hb0 : Below w.heap.size w (wr.alloc (.cells #[.int .i64 (0 : Int)] 3)) := hB'.out.alloc hB'.out.size _
                        have HB' := hide (hb0.grown hG' hb0.size (fun j hj => Nat.le_trans HSW.out (hO.out.lt j hj).1))
                        have HS' : Hid (w2.heap.size ≤ w'.heap.size) := by have h1 := hG'.size; have h2 := hS'.out; simp at h1; show _ ≤ _; omega
                        have HO' := hide hO'
                        clear hO' hG' hb0 hv'
                        go_wp2_with fail
                        go_roundw
                        case rel =>
                          refine ⟨m + 1, a', c', by rw [show L0.length + (m + 1) = n + 1 by have := HN.out; omega], by have := HN.out; omega, ?_, HB'.out, HS'.out⟩
                          have := HO'.out
                          rw [show L0.length + (m + 1) = n + 1 by have := HN.out; omega, List.replicate_succ', ← List.append_assoc]
                          simp only [toI, List.map_append, List.map_cons, List.map_nil] at this ⊢
                          exact this
                        case measure => simp [lenOf]; omega
                      · have e5 : L0.length + m = 5 := by omega
                        have hpad : pad5 L0 = L0 ++ List.replicate m 0 := by rw [pad5, show 5 - L0.length = m by omega]
                        obtain ⟨S, hS⟩ : ∃ S, L0 ++ List.replicate m 0 = S := ⟨_, rfl⟩
                        rw [hS] at hO hpad
                        have hSl : S.length = 5 := by rw [← hS]; simp; omega
                        have hS13 : ∀ i, S.getD i 0 < 13 := by
                          intro i
                          rw [← hS]
                          by_cases hi : i < L0.length
                          · simp only [List.getD, List.getElem?_append_left hi, hi, List.getElem?_eq_getElem, Option.getD_some]
                            exact hlt0.out _ (List.getElem_mem hi)
                          · simp only [List.getD, List.getElem?_append_right (Nat.le_of_not_lt hi), List.getElem?_replicate]
                            split <;> simp
                        have hdl : ∀ k, k ≤ 5 → digits cl (S.take k) ≤ 3341637 := by
                          intro k hk
                          have h1 := digits_lt cl (S.take k) (fun x hx => by
                            obtain ⟨i, hi, rfl⟩ := List.mem_iff_getElem.1 (List.mem_of_mem_take hx)
                            have := hS13 i
                            simpa [List.getD, hi] using this)
                          have h2 : (cl + 1) * 13 ^ (S.take k).length ≤ 9 * 13 ^ 5 := Nat.mul_le_mul (by omega) (Nat.pow_le_pow_right (by omega) (by rw [List.length_take]; omega))
                          omega
                        obtain ⟨bs, os, rfl, hcs⟩ := (Rd.of_own hO.out).cells (by omega)
                        rw [e5] at hcs ⊢
                        have HCS := hide hcs
                        have HDL := hide hdl
                        have HPD := hide hpad
                        have HS13 := hide hS13
                        have HSL := hide hSl
                        clear hcs hdl hpad hS13 hS hO hSl e5 hlt0
                        go_wp2
                        go_loop [14, 15] (fun v u => ∃ k : Nat, k ≤ 5 ∧ v = .int .i64 (digits cl (S.take k)) ∧ u = .int .i64 k) (fun _ u => 5 - (intOf u).toNat)
                        case atStart => exact ⟨0, by omega, by simp [digits], rfl⟩
                        case round =>
                          obtain ⟨k, hk, rfl, rfl⟩ := hrel
                          by_cases hk5 : k < 5
                          · have hk5' : (k : Int) < 5 := by omega
                            have c1 := HCS.out k hk5
                            rw [toI_getD] at c1
                            have hs := HS13.out k
                            have hv := HDL.out k (by omega)
                            have he : Hid (digits cl (S.take (k + 1)) = digits cl (S.take k) * 13 + S.getD k 0) := by
                              show _ = _
                              rw [take_snoc S k (by rw [HSL.out]; exact hk5), digits_snoc]
                            obtain ⟨s, hss⟩ : ∃ s, S.getD k 0 = s := ⟨_, rfl⟩
                            obtain ⟨v, hvv⟩ : ∃ v, digits cl (S.take k) = v := ⟨_, rfl⟩
                            rw [hss] at c1 hs he
                            rw [hvv] at hv he ⊢
                            clear hss hvv
                            go_wp2
                            go_round
                            case rel => exact ⟨k + 1, by omega, by rw [he.out]; congr 1; omega, by go_num⟩
                            case measure => simp [intOf]; omega
                          · obtain rfl : k = 5 := by omega
                            have hfin : Hid (refF (flN a b c d e) (mny [a, b, c, d, e]) = digits cl (S.take 5)) := by
                              show _ = _
                              rw [HVV.out, ← hL0.out, HPD.out, List.take_of_length_le (by rw [HSL.out]; exact Nat.le_refl _)]
                            go_wp2
                            go_ret
                            exact ⟨by rw [hfin.out]; rfl, hB'.out⟩

end Go.Proofs.Ytdhacmcdbpojlaa
