/-
  What the reference's PegOf answers. No conditions beyond those that each theorem bears.
-/
import Derived.Test.YtneafmjbekafmaaPegFace
import Derived.Deep.Cut
import Derived.Deep.CutRange
import Derived.Deep.DeepCutAuto
import Derived.Deep.CutBlock
namespace Go.Proofs.Ytneafmjbekafmaa
open Go.RowKit Go.Shelf

theorem five_no {L : List Nat} (h : sameE L 5) (hle : 5 ≤ L.length) (hn : L.Nodup) (hlt : ∀ x ∈ L, x < 52) : False := by
  have ex : ∀ d K, L.length - K = d → 5 ≤ K → K ≤ L.length → sameE L K → ∃ K', 5 ≤ K' ∧ Alike L K' := by
    intro d
    induction d with
    | zero =>
      intro K h1 h2 h3 h4
      exact ⟨K, h2, by omega, h3, h4, fun h => by omega⟩
    | succ d ih =>
      intro K h1 h2 h3 h4
      by_cases e : rkE L K = rkE L 0
      · exact ih (K + 1) (by omega) (by omega) (by omega) (fun j hj => by
          by_cases hjk : j = K
          · subst hjk; exact e
          · exact h4 j (by omega))
      · exact ⟨K, h2, by omega, h3, h4, fun _ => e⟩
  obtain ⟨K, hK, hA⟩ := ex _ 5 rfl (by omega) hle h
  have := hA.four hn hlt
  omega

/-- The first t of the last k cards have the last one's rank. -/
def sameB (L : List Nat) (k t : Nat) : Bool := decide (∀ j, j < t → rkC (L.getD (L.length - k + j) 0) = rkE L 0)

theorem sameB_zero (L : List Nat) (k : Nat) : sameB L k 0 = true := by
  rw [sameB, decide_eq_true_eq]; intro j hj; omega

theorem sameB_succ (L : List Nat) (k t : Nat) : sameB L k (t + 1) = (sameB L k t && decide (rkC (L.getD (L.length - k + t) 0) = rkE L 0)) := by
  rw [Bool.eq_iff_iff, Bool.and_eq_true, sameB, sameB, decide_eq_true_eq, decide_eq_true_eq, decide_eq_true_eq]
  constructor
  · intro h; exact ⟨fun j hj => h j (by omega), h t (by omega)⟩
  · rintro ⟨h1, h2⟩ j hj
    by_cases e : j = t
    · subst e; exact h2
    · exact h1 j (by omega)

theorem sameB_all (L : List Nat) (k : Nat) (hk : k ≤ L.length) : sameB L k k = true ↔ sameE L k := by
  rw [sameB, decide_eq_true_eq]
  constructor
  · intro h j hj
    have := h (k - 1 - j) (by omega)
    rw [show L.length - k + (k - 1 - j) = L.length - 1 - j by omega] at this
    exact this
  · intro h j hj
    have := h (k - 1 - j) (by omega)
    rw [rkE, show L.length - 1 - (k - 1 - j) = L.length - k + j by omega] at this
    exact this

theorem fresh_cell (W : World) (cs : Array Value) (t : TypeId) (i : Nat) (v : Value) (h : cs[i]? = some v) : (W.alloc (.cells cs t)).cell? ⟨W.heap.size, i, none⟩ = some v := by
  have := World.alloc_heap_new W (.cells cs t)
  simp only [World.cell?, this]
  exact h

/-- What the reference tells. -/
def PegR (L : List Nat) (n : Nat) (V : Int) : Prop :=
  (31 < sumP L n → V = -1) ∧ (sumP L n ≤ 31 → ∃ K, Alike L K ∧ V = ((two (sumP L n) + brings L K : Nat) : Int))

set_option maxRecDepth 100000 in
set_option maxHeartbeats 2000000 in
theorem PegOf_any (a : Option Addr) (n c : Nat) (L : List Nat) (hlt : ∀ x ∈ L, x < 52) (hnd : L.Nodup) (h1 : 1 ≤ n) (hn : n ≤ 13) (w : World) (h : Rd w a n c (toI L)) :
    Calls Try.prog 16 #[.slice a n c] w fun e w' => ∃ V, PegR L n V ∧ e = .returned (.int .i64 V) ∧ Below w.heap.size w w' := by
  have hcm := h.max
  have hcn := h.cap
  unfold maxLen at hcm
  have hL : L.length = n := by have := h.len; rwa [toI_length] at this
  have HRD := hide h
  obtain ⟨b, off, rfl, hc⟩ := h.cells (by omega)
  have HC : Hid (∀ i, i < n → w.cell? ⟨b, off + i, none⟩ = some (.int .i64 (L.getD i 0 : Nat))) := hide (fun i hi => by have := hc i hi; rwa [toI_getD] at this)
  have HL := hide hL
  have HLT : Hid (∀ i, i < n → L.getD i 0 < 52) := hide (fun i hi => hlt _ (mem_getD L i (by omega)))
  have HALL := hide hlt
  have FIVE : Hid (sameE L 5 → 5 ≤ n → False) := hide (fun h1 h2 => five_no h1 (by omega) hnd hlt)
  clear hc h hL hlt hnd
  go_enter Try.func16, Try.ntmps16
  go_wp2
  go_loop [3, 4] (fun s v => ∃ k : Nat, k ≤ n ∧ v = .int .i64 k ∧ s = .int .i64 (sumP L k)) (fun _ v => n - (intOf v).toNat)
  case atStart => exact ⟨0, by omega, rfl, rfl⟩
  case round =>
    obtain ⟨k, hk, rfl, rfl⟩ := hrel
    have hs := sumP_le L k
    by_cases hlt' : k < n
    · have hkn : (k : Int) < (n : Int) := by omega
      have r1 := HC.out k hlt'
      have hm := HLT.out k hlt'
      have hS : Hid (sumP L (k + 1) = sumP L k + ptC (L.getD k 0)) := rfl
      obtain ⟨x, hx⟩ : ∃ x, L.getD k 0 = x := ⟨_, rfl⟩
      rw [hx] at r1 hm hS
      have PT := hide (pointsOf_any x hm)
      have hp := (ptC_bd x).2
      obtain ⟨y, hy⟩ : ∃ y, ptC x = y := ⟨_, rfl⟩
      rw [hy] at PT hS hp
      clear hx hy
      go_wp2_with fail
      refine (PT.out _).mono ?_
      rintro e w1 ⟨rfl, hw⟩
      subst w1
      go_wp2
      go_round
      case rel => exact ⟨k + 1, by omega, by go_num, by rw [hS.out]; go_num⟩
      case measure => simp [intOf]; omega
    · obtain rfl : k = n := by omega
      have hkn : ¬ (k : Int) < (k : Int) := by omega
      have HPR : Hid (∀ V, PegR L k V ↔ (31 < sumP L k → V = -1) ∧ (sumP L k ≤ 31 → ∃ K, Alike L K ∧ V = ((two (sumP L k) + brings L K : Nat) : Int))) := hide (fun V => Iff.rfl)
      obtain ⟨s, hs'⟩ : ∃ s, sumP L k = s := ⟨_, rfl⟩
      rw [hs'] at hs HPR ⊢
      clear hs'
      by_cases h31 : 31 < s
      · have h31' : (31 : Int) < (s : Int) := by omega
        go_wp2
        go_ret
        exact ⟨-1, (HPR.out _).2 ⟨fun _ => rfl, fun hh => by omega⟩, rfl, Below.refl _ _⟩
      · have h31' : ¬ (31 : Int) < (s : Int) := by omega
        have FIN : Hid (∀ K V, Alike L K → V = ((two s + brings L K : Nat) : Int) → PegR L k V) := hide (fun K V hK hV => (HPR.out _).2 ⟨fun hh => by omega, fun _ => ⟨K, hK, hV⟩⟩)
        clear HPR
        go_upto_region 9 with fail
        go_cut [33] (fun s33 wc => s33 = .bool (decide (s = 15 ∨ s = 31)) ∧ wc = w)
        case first =>
          by_cases h15 : s = 15
          · subst h15
            go_wp2
            go_meet
            case rel => exact ⟨rfl, rfl⟩
          · by_cases h312 : s = 31
            · subst h312
              go_wp2
              go_meet
              case rel => exact ⟨rfl, rfl⟩
            · have d15 : ((s : Int) == 15) = false := by simp; omega
              have d31 : ((s : Int) == 31) = false := by simp; omega
              have T2 : Hid (decide (s = 15 ∨ s = 31) = false) := hide (by simp; omega)
              go_wp2
              go_meet
              case rel => exact ⟨by rw [T2.out], rfl⟩
        case rest =>
        obtain ⟨rfl, hwc⟩ := hcut
        have hwc' := hwc.symm
        subst hwc'
        clear hwc
        have TB : Hid (two s = if decide (s = 15 ∨ s = 31) = true then 2 else 0) := hide (by rw [two]; simp only [decide_eq_true_eq])
        generalize decide (s = 15 ∨ s = 31) = bb at *
        go_upto_if 33 with fail
        go_cut [5] (fun s5 wc => s5 = .int .i64 (two s : Nat) ∧ wc = w)
        case first =>
          cases bb with
          | true =>
            go_wp2
            go_meet
            case rel => exact ⟨by rw [TB.out]; rfl, rfl⟩
          | false =>
            go_wp2
            go_meet
            case rel => exact ⟨by rw [TB.out]; rfl, rfl⟩
        case rest =>
          obtain ⟨rfl, hwc⟩ := hcut
          have hwc' := hwc.symm
          subst hwc'
          clear hwc
          have ht2 : two s ≤ 2 := by unfold two; split <;> omega
          obtain ⟨T, hT⟩ : ∃ T, two s = T := ⟨_, rfl⟩
          rw [hT] at FIN ht2 ⊢
          clear hT h31 h31' hs
          go_wp2
          go_loopw [7] (fun v wr => ∃ l q : Nat, 1 ≤ l ∧ l ≤ 4 ∧ v = .int .i64 l ∧ wr = w.drewN q ∧ Hid (∀ j, l < j → j ≤ 4 → j ≤ k → ¬ sameE L j)) (fun v _ => (intOf v).toNat)
          case atStart => exact ⟨4, 0, by omega, by omega, rfl, rfl, fun j h1 h2 => by omega⟩
          case round =>
            obtain ⟨l, q, hl1, hl4, rfl, rfl, hno⟩ := hrel
            by_cases hl2 : 2 ≤ l
            · have hl2' : (2 : Int) ≤ (l : Int) := by omega
              by_cases hlk : l ≤ k
              · have hlk' : ¬ (k : Int) < (l : Int) := by omega
                have e0 : (k : Int) - (l : Int) = ((k - l : Nat) : Int) := by omega
                have e9 : (k : Int) - 1 = ((k - 1 : Nat) : Int) := by omega
                go_wp2
                go_loopw [8, 9] (fun s8 v wr => ∃ t q' : Nat, t ≤ l ∧ v = .int .i64 (k - l + t : Nat) ∧ s8 = .bool (sameB L l t) ∧ wr = w.drewN q') (fun _ v _ => k - (intOf v).toNat)
                case atStart => exact ⟨0, q, by omega, by simp, by rw [sameB_zero], rfl⟩
                case round =>
                  obtain ⟨t, q', ht, rfl, rfl, rfl⟩ := hrel
                  by_cases htl : t < l
                  · obtain ⟨p, hp⟩ : ∃ p, k - l + t = p := ⟨_, rfl⟩
                    have hpk : p < k := by omega
                    have hpk' : (p : Int) < (k : Int) := by omega
                    have r1 := HC.out p hpk
                    have r2 := HC.out (k - 1) (by omega)
                    have hx := HLT.out p hpk
                    have hy := HLT.out (k - 1) (by omega)
                    have SS := sameB_succ L l t
                    rw [HL.out, hp, rkE, HL.out, Nat.sub_zero] at SS
                    rw [hp]
                    obtain ⟨x, hx'⟩ : ∃ x, L.getD p 0 = x := ⟨_, rfl⟩
                    obtain ⟨y, hy'⟩ : ∃ y, L.getD (k - 1) 0 = y := ⟨_, rfl⟩
                    rw [hx'] at r1 hx SS
                    rw [hy'] at r2 hy SS
                    have hpe : ((p : Int) + 1) = ((k - l + (t + 1) : Nat) : Int) := by omega
                    have HPE := hide hpe
                    have hk1' : ((k - 1 : Nat) : Int) < (k : Int) := by omega
                    clear hx' hy' hpe hp
                    generalize sameB L l t = bb at *
                    cases bb with
                    | false =>
                      rw [Bool.false_and] at SS
                      have HSS := hide SS
                      clear SS
                      go_wp2
                      go_quiet (fail)
                      go_wp2
                      go_roundw
                      case rel => exact ⟨t + 1, _, by omega, by rw [← HPE.out], by rw [HSS.out], rfl⟩
                      case measure => simp [intOf]; omega
                    | true =>
                      rw [Bool.true_and] at SS
                      have P1 := hide (pipOf_any x hx)
                      have P2 := hide (pipOf_any y hy)
                      by_cases hr : rkC x = rkC y
                      · have HSS : Hid (sameB L l (t + 1) = true) := hide (by rw [SS]; simp [hr])
                        have hb1 : (((rkC x + 1 : Nat) : Int) == ((rkC y + 1 : Nat) : Int)) = true := by simp; omega
                        have hb2 : ((rkC x : Int) + 1 == (rkC y : Int) + 1) = true := by simp; omega
                        clear SS hr
                        go_wp2
                        go_quiet ((go_at_call 26; exact (pipOf_any _ (by assumption) _).mono (fun _ _ ⟨he, hw⟩ => ⟨he, _, hw⟩)))
                        go_wp2
                        go_roundw
                        case rel => exact ⟨t + 1, _, by omega, by rw [← HPE.out], by rw [HSS.out], rfl⟩
                        case measure => simp [intOf]; omega
                      · have HSS : Hid (sameB L l (t + 1) = false) := hide (by rw [SS]; simp [hr])
                        have hb1 : (((rkC x + 1 : Nat) : Int) == ((rkC y + 1 : Nat) : Int)) = false := by simp; omega
                        have hb2 : ((rkC x : Int) + 1 == (rkC y : Int) + 1) = false := by simp; omega
                        clear SS hr
                        go_wp2
                        go_quiet ((go_at_call 26; exact (pipOf_any _ (by assumption) _).mono (fun _ _ ⟨he, hw⟩ => ⟨he, _, hw⟩)))
                        go_wp2
                        go_roundw
                        case rel => exact ⟨t + 1, _, by omega, by rw [← HPE.out], by rw [HSS.out], rfl⟩
                        case measure => simp [intOf]; omega
                  · obtain rfl : t = l := by omega
                    have hend : k - t + t = k := by omega
                    rw [hend]
                    have hkk : ¬ (k : Int) < (k : Int) := by omega
                    have SA := hide (sameB_all L t (by rw [HL.out]; exact hlk))
                    cases hbb : sameB L t t with
                    | true =>
                      have hsame : Hid (sameE L t) := hide (SA.out.1 hbb)
                      have AL : Hid (Alike L t) := hide ⟨hl1, by rw [HL.out]; exact hlk, hsame.out, fun hlt e => by
                        rw [HL.out] at hlt
                        have h5 : sameE L (t + 1) := fun j hj => by
                          by_cases ej : j = t
                          · subst ej; exact e
                          · exact hsame.out j (by omega)
                        by_cases e4 : t = 4
                        · subst e4; exact FIVE.out h5 (by omega)
                        · exact hno.out (t + 1) (by omega) (by omega) (by omega) h5⟩
                      have FB : Hid (brings L t = t * (t - 1)) := hide (by rw [brings, if_pos (by omega)])
                      clear hbb SA hno hend e0 e9
                      obtain rfl | rfl | rfl : t = 2 ∨ t = 3 ∨ t = 4 := by omega
                      · rw [show (((2 : Nat)) : Int) = (2 : Int) from rfl]
                        have nc : ((w.drewN q').alloc (Obj.cells #[.int .i64 0, .int .i64 0, .int .i64 2, .int .i64 6, .int .i64 12] 3)).cell? ⟨w.heap.size, 2, none⟩ = some (.int .i64 2) := fresh_cell (w.drewN q') _ _ 2 _ rfl
                        go_wp2
                        go_ret
                        refine ⟨_, FIN.out _ _ AL.out (by rw [FB.out]; rfl), rfl, ?_⟩
                        exact (drewN_below _ _ _).alloc (Nat.le_refl _) _
                      · rw [show (((3 : Nat)) : Int) = (3 : Int) from rfl]
                        have nc : ((w.drewN q').alloc (Obj.cells #[.int .i64 0, .int .i64 0, .int .i64 2, .int .i64 6, .int .i64 12] 3)).cell? ⟨w.heap.size, 3, none⟩ = some (.int .i64 6) := fresh_cell (w.drewN q') _ _ 3 _ rfl
                        go_wp2
                        go_ret
                        refine ⟨_, FIN.out _ _ AL.out (by rw [FB.out]; rfl), rfl, ?_⟩
                        exact (drewN_below _ _ _).alloc (Nat.le_refl _) _
                      · rw [show (((4 : Nat)) : Int) = (4 : Int) from rfl]
                        have nc : ((w.drewN q').alloc (Obj.cells #[.int .i64 0, .int .i64 0, .int .i64 2, .int .i64 6, .int .i64 12] 3)).cell? ⟨w.heap.size, 4, none⟩ = some (.int .i64 12) := fresh_cell (w.drewN q') _ _ 4 _ rfl
                        go_wp2
                        go_ret
                        refine ⟨_, FIN.out _ _ AL.out (by rw [FB.out]; rfl), rfl, ?_⟩
                        exact (drewN_below _ _ _).alloc (Nat.le_refl _) _
                    | false =>
                      have hno2 : Hid (∀ j, t - 1 < j → j ≤ 4 → j ≤ k → ¬ sameE L j) := hide (fun j h1 h2 h3 hs => by
                        by_cases ej : j = t
                        · subst ej
                          have := SA.out.2 hs
                          rw [hbb] at this
                          cases this
                        · exact hno.out j (by omega) h2 h3 hs)
                      clear hbb SA hno hend e0 e9
                      go_wp2
                      go_roundw
                      case rel => exact ⟨t - 1, _, by omega, by omega, by go_num, rfl, hno2⟩
                      case measure => simp [intOf]; omega
              · have hlk' : (k : Int) < (l : Int) := by omega
                have hno2 : Hid (∀ j, l - 1 < j → j ≤ 4 → j ≤ k → ¬ sameE L j) := hide (fun j h1 h2 h3 hs => by omega)
                go_wp2
                go_roundw
                case rel => exact ⟨l - 1, _, by omega, by omega, by go_num, rfl, hno2⟩
                case measure => simp [intOf]; omega
            · obtain rfl : l = 1 := by omega
              have AL : Hid (Alike L 1) := hide ⟨by omega, by rw [HL.out]; exact h1, sameE_one L, fun hlt e => by
                rw [HL.out] at hlt
                exact hno.out 2 (by omega) (by omega) (by omega) (fun j hj => by
                  obtain rfl | rfl : j = 0 ∨ j = 1 := by omega
                  · rfl
                  · exact e)⟩
              have FR : Hid (∀ V, V = ((T + rowTo L k : Nat) : Int) → PegR L k V) := hide (fun V hV => FIN.out 1 V AL.out (by rw [hV, brings, if_neg (by omega), HL.out]))
              clear AL hno FIN
              rw [show (((1 : Nat)) : Int) = (1 : Int) from rfl]
              go_wp2
              go_loop [10] (fun v => ∃ l : Nat, l ≤ k ∧ v = .int .i64 l ∧ Hid (rowTo L k = rowTo L l)) (fun v => (intOf v).toNat)
              case atStart => exact ⟨k, Nat.le_refl _, rfl, rfl⟩
              case round =>
                obtain ⟨l, hlk, rfl, hR⟩ := hrel
                by_cases h3 : 3 ≤ l
                · have h3' : (3 : Int) ≤ (l : Int) := by omega
                  have e0 : (k : Int) - (l : Int) = ((k - l : Nat) : Int) := by omega
                  obtain ⟨d, hd⟩ : ∃ d, k - l = d := ⟨_, rfl⟩
                  rw [hd] at e0
                  have hdl : d + l = k := by omega
                  have RF0 := (HRD.out.mono (drewN_below w.heap.size w q)).from (k := d) (by omega)
                  simp only [Option.map_some, Addr.add_lit] at RF0
                  rw [show (toI L).drop d = toI (L.drop d) by simp [toI, List.map_drop], show k - d = l by omega, if_neg (by omega)] at RF0
                  have HSL : Hid ((L.drop d).length = l) := hide (by rw [List.length_drop, HL.out]; omega)
                  have HSG : Hid (∀ t, (L.drop d).getD t 0 = L.getD (d + t) 0) := hide (fun t => by simp [List.getD])
                  have HLW := hide (lowTo_le (L.drop d))
                  have WAY := hide (fun lo (h : lo + l ≤ 13) => ways_any _ l (c - d) (L.drop d) (fun x hx => HALL.out x (List.mem_of_mem_drop hx)) (by omega) lo l h _ RF0)
                  have RB := hide (rowB_ref (L.drop d) (by rw [HSL.out]; omega))
                  rw [HSL.out] at RB
                  have HYES : Hid (rowB (L.drop d) = true → rowTo L k = l) := hide (fun hb => by
                    rw [hR.out]
                    exact rowTo_yes L l h3 (by rw [HL.out, hd]; exact hb))
                  have HNO : Hid (rowB (L.drop d) = false → rowTo L k = rowTo L (l - 1)) := hide (fun hb => by
                    rw [hR.out]
                    exact rowTo_no L l h3 (by rw [HL.out, hd]; exact hb))
                  clear RF0 hd
                  go_wp2
                  go_loop [11, 12] (fun s11 v => ∃ t : Nat, t ≤ l ∧ v = .int .i64 (d + t : Nat) ∧ s11 = .int .i64 (lowTo (L.drop d) t + 1 : Nat)) (fun _ v => k - (intOf v).toNat)
                  case atStart => exact ⟨0, by omega, rfl, rfl⟩
                  case round =>
                    obtain ⟨t, ht, rfl, rfl⟩ := hrel
                    have hlw := HLW.out t
                    by_cases htl : t < l
                    · obtain ⟨p, hp⟩ : ∃ p, d + t = p := ⟨_, rfl⟩
                      have hpk : p < k := by omega
                      have hpk' : (p : Int) < (k : Int) := by omega
                      have r1 := HC.out p hpk
                      have hx := HLT.out p hpk
                      have LS : lowTo (L.drop d) (t + 1) = if rkC ((L.drop d).getD t 0) < lowTo (L.drop d) t then rkC ((L.drop d).getD t 0) else lowTo (L.drop d) t := rfl
                      rw [HSG.out, hp] at LS
                      rw [hp]
                      obtain ⟨x, hx'⟩ : ∃ x, L.getD p 0 = x := ⟨_, rfl⟩
                      rw [hx'] at r1 hx LS
                      have PP := hide (pipOf_any x hx)
                      have hr13 := rkC_lt x
                      obtain ⟨rx, hrx⟩ : ∃ r, rkC x = r := ⟨_, rfl⟩
                      rw [hrx] at PP LS hr13
                      have hpe : Hid ((p : Int) + 1 = ((d + (t + 1) : Nat) : Int)) := hide (by omega)
                      clear hx' hrx hp
                      generalize lowTo (L.drop d) t = m at *
                      by_cases hlo : rx < m
                      · have hlo' : ((rx + 1 : Nat) : Int) < ((m + 1 : Nat) : Int) := by omega
                        have hlo2 : (rx : Int) + 1 < (m : Int) + 1 := by omega
                        rw [if_pos hlo] at LS
                        have HLS := hide LS
                        clear LS
                        go_wp2_with fail
                        refine (PP.out _).mono ?_
                        rintro e w1 ⟨rfl, hw⟩
                        subst w1
                        go_wp2_with fail
                        refine (PP.out _).mono ?_
                        rintro e w1 ⟨rfl, hw⟩
                        subst w1
                        go_wp2
                        go_round
                        case rel => exact ⟨t + 1, by omega, by rw [← hpe.out], by rw [HLS.out]; go_num⟩
                        case measure => simp [intOf]; omega
                      · have hlo' : ¬ ((rx + 1 : Nat) : Int) < ((m + 1 : Nat) : Int) := by omega
                        have hlo2 : ¬ (rx : Int) + 1 < (m : Int) + 1 := by omega
                        rw [if_neg hlo] at LS
                        have HLS := hide LS
                        clear LS
                        go_wp2_with fail
                        refine (PP.out _).mono ?_
                        rintro e w1 ⟨rfl, hw⟩
                        subst w1
                        go_wp2
                        go_round
                        case rel => exact ⟨t + 1, by omega, by rw [← hpe.out], by rw [HLS.out]; go_num⟩
                        case measure => simp [intOf]; omega
                    · obtain rfl : t = l := by omega
                      rw [hdl]
                      have hkk : ¬ (k : Int) < (k : Int) := by omega
                      generalize lowTo (L.drop d) t = lo at *
                      by_cases hlo : lo + t ≤ 13
                      · have hlo' : ((lo + 1 : Nat) : Int) + (t : Int) ≤ 14 := by omega
                        have hlo2 : (lo : Int) + 1 + (t : Int) ≤ 14 := by omega
                        have dlo : decide ((lo : Int) + 1 + (t : Int) ≤ 14) = true := by simp; omega
                        have WL := hide (WAY.out lo hlo)
                        rw [decide_eq_true hlo, Bool.true_and] at RB
                        obtain ⟨y, hy⟩ : ∃ y, prT (tms (L.drop d)) lo t = y := ⟨_, rfl⟩
                        rw [hy, show ((lo + 1 : Nat) : Int) = (lo : Int) + 1 by omega] at WL
                        rw [hy] at RB
                        have hkd : k - d = t := by omega
                        clear hy WAY
                        by_cases hy1 : y = 1
                        · have HE := hide (HYES.out (by rw [RB.out]; simp [hy1]))
                          subst hy1
                          clear HYES HNO RB hR
                          go_wp2_with fail
                          refine WL.out.mono ?_
                          rintro e w1 ⟨rfl, hw⟩
                          subst w1
                          go_wp2
                          go_ret
                          exact ⟨_, FR.out _ (by rw [HE.out]; omega), rfl, drewN_below _ _ _⟩
                        · have HE := hide (HNO.out (by rw [RB.out]; simp [hy1]))
                          have hyb : ((y : Int) == 1) = false := by simp; omega
                          clear HYES HNO RB hR
                          go_wp2_with fail
                          refine WL.out.mono ?_
                          rintro e w1 ⟨rfl, hw⟩
                          subst w1
                          go_wp2
                          go_round
                          case rel => exact ⟨t - 1, by omega, by go_num, HE⟩
                          case measure => simp [intOf]; omega
                      · have hlo' : ¬ ((lo + 1 : Nat) : Int) + (t : Int) ≤ 14 := by omega
                        have hlo2 : ¬ (lo : Int) + 1 + (t : Int) ≤ 14 := by omega
                        have dlo : decide ((lo : Int) + 1 + (t : Int) ≤ 14) = false := by simp; omega
                        rw [decide_eq_false hlo, Bool.false_and] at RB
                        have HE := hide (HNO.out RB.out)
                        clear HYES HNO RB hR WAY
                        go_wp2
                        go_round
                        case rel => exact ⟨t - 1, by omega, by go_num, HE⟩
                        case measure => simp [intOf]; omega
                · have h3' : ¬ (3 : Int) ≤ (l : Int) := by omega
                  have HE : Hid (rowTo L k = 0) := hide (by rw [hR.out]; exact rowTo_small L l (by omega))
                  go_wp2
                  go_ret
                  exact ⟨_, FR.out _ (by rw [HE.out]; rfl), rfl, drewN_below _ _ _⟩

end Go.Proofs.Ytneafmjbekafmaa
