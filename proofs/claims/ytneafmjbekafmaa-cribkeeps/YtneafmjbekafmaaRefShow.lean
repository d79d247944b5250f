/-
  What the reference's ShowOf answers. No conditions beyond those that each theorem bears.
-/
import Derived.Test.YtneafmjbekafmaaWays
import Derived.Test.YtneafmjbekafmaaFlJ
import Derived.Deep.Cut
import Derived.Deep.CutRange
import Derived.Deep.DeepCutAuto
import Derived.Deep.CutBlock
import Derived.Deep.RegionHeld3
namespace Go.Proofs.Ytneafmjbekafmaa
open Go.RowKit Go.Shelf

/-- Four of one suit, or five. -/
def flR (L : List Nat) (crib : Bool) : Nat :=
  if L.getD 0 0 % 4 = L.getD 1 0 % 4 ∧ L.getD 0 0 % 4 = L.getD 2 0 % 4 ∧ L.getD 0 0 % 4 = L.getD 3 0 % 4 then (if L.getD 0 0 % 4 = L.getD 4 0 % 4 then 5 else if crib then 0 else 4) else 0

/-- Jacks of the start's suit among the first k cards. -/
def jkR (L : List Nat) : Nat → Nat
  | 0 => 0
  | k + 1 => if rkC (L.getD k 0) = 10 ∧ L.getD k 0 % 4 = L.getD 4 0 % 4 then jkR L k + 1 else jkR L k

def shR (L : List Nat) (crib : Bool) : Nat := fifN L + prL (L.map rkC) + refRows (tms L) + flR L crib + jkR L 4

theorem prL_le (l : List Nat) : prL l ≤ 2 * l.length * l.length := by
  induction l with
  | nil => simp [prL]
  | cons x l ih =>
    have : l.count x ≤ l.length := List.count_le_length
    have e : 2 * (l.length + 1) * (l.length + 1) = 2 * l.length * l.length + (4 * l.length + 2) := by
      simp only [Nat.mul_add, Nat.add_mul, Nat.mul_one]; omega
    rw [prL, List.length_cons, e]
    omega

theorem jkR_le (L : List Nat) (k : Nat) : jkR L k ≤ k := by
  induction k with
  | zero => simp [jkR]
  | succ k ih => unfold jkR; split <;> omega

theorem prT_le5 (T : List Nat) (lo n : Nat) (h : ∀ r, T.getD r 0 ≤ 13) (h5 : n ≤ 5) : prT T lo n ≤ 400000 := by
  have h3 := prT_le T lo h n
  have h4 : 13 ^ n ≤ 13 ^ 5 := Nat.pow_le_pow_right (by omega) h5
  have h5 : (13 : Nat) ^ 5 = 371293 := by decide
  omega

theorem winTo_le (T : List Nat) (n k : Nat) (h : ∀ r, T.getD r 0 ≤ 13) (h5 : n ≤ 5) (hk : k ≤ 14) : winTo T n k ≤ 5600000 := by
  have h2 : ∀ k, winTo T n k ≤ k * 400000 := by
    intro k
    induction k with
    | zero => simp [winTo]
    | succ k ih =>
      have h3 := prT_le5 T k n h h5
      rw [winTo, Nat.succ_mul]; omega
  have h3 := h2 k
  have h4 : k * 400000 ≤ 14 * 400000 := Nat.mul_le_mul_right _ hk
  omega

theorem winS_le (T : List Nat) (n : Nat) (h : ∀ r, T.getD r 0 ≤ 13) (hl : T.length = 13) (h5 : n ≤ 5) : winS n T ≤ 5600000 := by
  have h1 := winTo_drop T n 13 (by omega)
  rw [← hl, List.drop_length, hl] at h1
  have h3 : winS n ([] : List Nat) = 0 := rfl
  have := winTo_le T n 13 h h5 (by omega)
  omega

set_option maxRecDepth 100000 in
set_option maxHeartbeats 4000000 in
theorem ShowOf_any (a : Option Addr) (c : Nat) (L : List Nat) (h5 : L.length = 5) (hlt : ∀ x ∈ L, x < 52) (crib : Bool) (w : World) (h : Rd w a 5 c (toI L)) :
    Calls Try.prog 11 #[.slice a 5 c, .bool crib] w fun e w' => e = .returned (.int .i64 (shR L crib)) ∧ ∃ q, w' = w.drewN q := by
  have hcm := h.max
  have hcn := h.cap
  unfold maxLen at hcm
  have HRD := hide h
  obtain ⟨b, off, rfl, hc⟩ := h.cells (by omega)
  have HC := hide hc
  have H5 := hide h5
  clear hc h h5
  obtain ⟨ps, hps⟩ : ∃ ps, L.map ptC = ps := ⟨_, rfl⟩
  have hb10 : ∀ i, ps.getD i 0 ≤ 10 := by rw [← hps]; exact pts_le L
  have HP := hide hps
  have HB := hide hb10
  clear hps hb10
  go_enter Try.func11, Try.ntmps11
  go_wp2
  go_loop [5, 6] (fun s v => ∃ A : Nat, A ≤ 32 ∧ v = .int .i64 A ∧ s = .int .i64 (fifTo ps A)) (fun _ v => 32 - (intOf v).toNat)
  case atStart => exact ⟨0, by omega, rfl, rfl⟩
  case round =>
    obtain ⟨A, hA, rfl, rfl⟩ := hrel
    have hf := fifTo_le ps A
    by_cases hA32 : A < 32
    · have hlt' : (A : Int) < 32 := by omega
      go_wp2
      go_loop [7, 8] (fun s v => ∃ i : Nat, i ≤ 5 ∧ v = .int .i64 i ∧ s = .int .i64 (sumTo ps A i)) (fun _ v => 5 - (intOf v).toNat)
      case atStart => exact ⟨0, by omega, rfl, rfl⟩
      case round =>
        obtain ⟨i, hi, rfl, rfl⟩ := hrel
        have hs := sumTo_le ps A HB.out i
        by_cases hi5 : i < 5
        · have hi' : (i : Int) < 5 := by omega
          have r1 := HC.out i hi5
          rw [toI_getD] at r1
          obtain ⟨x, hx⟩ : ∃ x, L.getD i 0 = x := ⟨_, rfl⟩
          rw [hx] at r1
          have hm := hlt x (by rw [← hx]; exact mem_getD L i (by rw [H5.out]; exact hi5))
          have hpx : ps.getD i 0 = ptC x := by rw [← HP.out, map_getD L i (by rw [H5.out]; exact hi5), hx]
          have hp10 := (ptC_bd x).2
          have hbt := bit_test A i hA32
          have PT := hide (pointsOf_any x hm)
          clear hx
          by_cases hbit : A / 2 ^ i % 2 = 1
          · have HS := hide (sumTo_yes ps A i hbit)
            rw [hpx] at HS
            rw [decide_eq_true hbit] at hbt
            obtain ⟨y, hy⟩ : ∃ y, ptC x = y := ⟨_, rfl⟩
            rw [hy] at HS PT hp10
            clear hpx hbit hy
            go_wp2_with fail
            refine (PT.out _).mono ?_
            rintro e w1 ⟨rfl, hw⟩
            subst w1
            go_wp2
            go_round
            case rel => exact ⟨i + 1, by omega, by go_num, by rw [HS.out]; go_num⟩
            case measure => simp [intOf]; omega
          · have HS := hide (sumTo_no ps A i hbit)
            rw [decide_eq_false hbit] at hbt
            clear hpx hbit PT
            go_wp2
            go_round
            case rel => exact ⟨i + 1, by omega, by go_num, by rw [HS.out]⟩
            case measure => simp [intOf]; omega
        · obtain rfl : i = 5 := by omega
          rw [show (((5 : Nat)) : Int) = (5 : Int) from rfl]
          by_cases h15 : sumTo ps A 5 = 15
          · have HF := hide (fifTo_yes ps A h15)
            have hb : ((sumTo ps A 5 : Nat) : Int) = 15 := by omega
            clear h15
            go_wp2
            go_round
            case rel => exact ⟨A + 1, by omega, by go_num, by rw [HF.out]; go_num⟩
            case measure => simp [intOf]; omega
          · have HF := hide (fifTo_no ps A h15)
            have hb : (((sumTo ps A 5 : Nat) : Int) == 15) = false := by simp; omega
            clear h15
            go_wp2
            go_round
            case rel => exact ⟨A + 1, by omega, by go_num, by rw [HF.out]⟩
            case measure => simp [intOf]; omega
    · obtain rfl : A = 32 := by omega
      rw [show (((32 : Nat)) : Int) = (32 : Int) from rfl]
      have HF : Hid (fifN L = fifTo ps 32) := hide (by rw [fifN, HP.out])
      obtain ⟨F, hF⟩ : ∃ F, fifTo ps 32 = F := ⟨_, rfl⟩
      rw [hF] at HF hf ⊢
      clear hF HP HB
      go_wp2
      go_loopw [5, 9] (fun s v wr => ∃ i q : Nat, i ≤ 5 ∧ v = .int .i64 i ∧ s = .int .i64 (F + prL ((L.take i).map rkC) : Nat) ∧ wr = w.drewN q) (fun _ v _ => 5 - (intOf v).toNat)
      case atStart => exact ⟨0, 0, by omega, rfl, rfl, rfl⟩
      case round =>
        obtain ⟨i, q, hi, rfl, rfl, rfl⟩ := hrel
        have hpl := prL_le ((L.take i).map rkC)
        have hle : ((L.take i).map rkC).length ≤ 5 := by rw [List.length_map, List.length_take]; omega
        have hpl' : prL ((L.take i).map rkC) ≤ 50 := Nat.le_trans hpl (by have := Nat.mul_le_mul (Nat.mul_le_mul_left 2 hle) hle; omega)
        clear hpl hle
        by_cases hi5 : i < 5
        · have hi' : (i : Int) < 5 := by omega
          have hil : i < L.length := by rw [H5.out]; exact hi5
          have ET := hide (take_snoc L i hil)
          have r1 := HC.out i hi5
          rw [toI_getD] at r1
          have hm := hlt _ (mem_getD L i hil)
          obtain ⟨x, hx⟩ : ∃ x, L.getD i 0 = x := ⟨_, rfl⟩
          rw [hx] at r1 ET hm
          have HX := hide hx
          clear hx hil
          have PS : Hid (prL ((L.take (i + 1)).map rkC) = prL ((L.take i).map rkC) + 2 * ((L.take i).map rkC).count (rkC x)) := hide (by
            rw [ET.out, List.map_append, List.map_cons, List.map_nil, prL_snoc])
          obtain ⟨P, hP⟩ : ∃ P, prL ((L.take i).map rkC) = P := ⟨_, rfl⟩
          rw [hP] at PS hpl' ⊢
          clear hP
          go_wp2
          go_loopw [5, 10] (fun s v wr => ∃ k q' : Nat, k ≤ i ∧ v = .int .i64 k ∧ s = .int .i64 (F + P + 2 * ((L.take k).map rkC).count (rkC x) : Nat) ∧ wr = w.drewN q') (fun _ v _ => i - (intOf v).toNat)
          case atStart => exact ⟨0, q, by omega, rfl, rfl, rfl⟩
          case round =>
            obtain ⟨k, q', hk, rfl, rfl, rfl⟩ := hrel
            have hcl : ((L.take k).map rkC).count (rkC x) ≤ 5 := by
              refine Nat.le_trans List.count_le_length ?_
              rw [List.length_map, List.length_take]; omega
            by_cases hki : k < i
            · have hki' : (k : Int) < (i : Int) := by omega
              have hkl : k < L.length := by rw [H5.out]; omega
              have r2 := HC.out k (by omega)
              rw [toI_getD] at r2
              have hm2 := hlt _ (mem_getD L k hkl)
              have et := take_snoc L k hkl
              obtain ⟨y, hy⟩ : ∃ y, L.getD k 0 = y := ⟨_, rfl⟩
              rw [hy] at r2 hm2 et
              have cs := count_snocR (L.take k) y (rkC x)
              rw [← et] at cs
              clear hy et hkl
              have P1 := hide (pipOf_any x hm)
              have P2 := hide (pipOf_any y hm2)
              obtain ⟨rx, hrx⟩ : ∃ r, rkC x = r := ⟨_, rfl⟩
              obtain ⟨ry, hry⟩ : ∃ r, rkC y = r := ⟨_, rfl⟩
              rw [hrx] at P1 cs hcl ⊢
              rw [hry] at P2 cs
              generalize ((L.take k).map rkC).count rx = C at *
              have CS := hide cs
              clear hrx hry cs
              obtain ⟨bb, hbb⟩ : ∃ bb, ((rx : Int) + 1 == (ry : Int) + 1) = bb := ⟨_, rfl⟩
              have HBB : Hid (bb = true ↔ ry = rx) := hide (by rw [← hbb]; simp; omega)
              have h1i : (i : Int) < 5 := by omega
              have h1k : (k : Int) < 5 := by omega
              go_wp2_with fail
              refine wp_region_held (S := fun W => ∃ m, W = w.drewN m) (by kernel_rfl) ?_
              change wpAnyH _ _ _ _ _ _ _ _ (World.drew _)
              have SW : ∃ m, (w.drewN q').drew = w.drewN m := ⟨q' + 1, rfl⟩
              refine wpAnyH_take (i := 0) (v := .slice (some ⟨b, off, none⟩) 5 c) rfl (by kernel_rfl) (by kernel_rfl) (by kernel_rfl) (fun _ _ _ h => h) (Or.inl ⟨by rfl, ?_⟩) SW ?_
              · rintro W ⟨m, hW⟩
                subst hW
                go_simp
              go_simp
              refine wpAnyH_take (i := 1) (v := .int .i64 i) rfl (by kernel_rfl) (by kernel_rfl) (by kernel_rfl) (fun _ _ _ h => h) (Or.inl ⟨by rfl, ?_⟩) SW ?_
              · rintro W ⟨m, hW⟩
                subst hW
                go_simp
              go_simp
              refine wpAnyH_take (i := 2) (v := .pointer (some ⟨b, off + i, none⟩)) rfl (by kernel_rfl) (by kernel_rfl) (by kernel_rfl) (fun _ _ _ h => h) (Or.inl ⟨by rfl, ?_⟩) SW ?_
              · rintro W ⟨m, hW⟩
                subst hW
                go_simp
              go_simp
              refine wpAnyH_take (i := 3) (v := .int .i64 x) rfl (by kernel_rfl) (by kernel_rfl) (by kernel_rfl) (fun _ _ _ h => h) (Or.inl ⟨by rfl, ?_⟩) SW ?_
              · rintro W ⟨m, hW⟩
                subst hW
                go_simp
              go_simp
              refine wpAnyH_take (i := 5) (v := .slice (some ⟨b, off, none⟩) 5 c) rfl (by kernel_rfl) (by kernel_rfl) (by kernel_rfl) (fun _ _ _ h => h) (Or.inl ⟨by rfl, ?_⟩) SW ?_
              · rintro W ⟨m, hW⟩
                subst hW
                go_simp
              go_simp
              refine wpAnyH_take (i := 6) (v := .int .i64 k) rfl (by kernel_rfl) (by kernel_rfl) (by kernel_rfl) (fun _ _ _ h => h) (Or.inl ⟨by rfl, ?_⟩) SW ?_
              · rintro W ⟨m, hW⟩
                subst hW
                go_simp
              go_simp
              refine wpAnyH_take (i := 7) (v := .pointer (some ⟨b, off + k, none⟩)) rfl (by kernel_rfl) (by kernel_rfl) (by kernel_rfl) (fun _ _ _ h => h) (Or.inl ⟨by rfl, ?_⟩) SW ?_
              · rintro W ⟨m, hW⟩
                subst hW
                go_simp
              go_simp
              refine wpAnyH_take (i := 8) (v := .int .i64 y) rfl (by kernel_rfl) (by kernel_rfl) (by kernel_rfl) (fun _ _ _ h => h) (Or.inl ⟨by rfl, ?_⟩) SW ?_
              · rintro W ⟨m, hW⟩
                subst hW
                go_simp
              go_simp
              refine wpAnyH_ready (rs := [4]) (by kernel_rfl) (by simp) ?_
              refine AllReadyH.cons rfl (fun K1 hK1 => ?_) AllReadyH.nil
              go_simp
              refine (P1.out _).mono ?_
              rintro e W2 ⟨rfl, hW2⟩
              subst hW2
              refine hK1.out _ _ SW (fun SW => ?_)
              clear hK1 K1
              go_simp
              refine wpAnyH_ready (rs := [9]) (by kernel_rfl) (by simp) ?_
              refine AllReadyH.cons rfl (fun K1 hK1 => ?_) AllReadyH.nil
              go_simp
              refine (P2.out _).mono ?_
              rintro e W2 ⟨rfl, hW2⟩
              subst hW2
              refine hK1.out _ _ SW (fun SW => ?_)
              clear hK1 K1
              go_simp
              refine wpAnyH_take (i := 10) (v := .bool bb) rfl (by kernel_rfl) (by kernel_rfl) (by kernel_rfl) (fun _ _ _ h => h) (Or.inl ⟨by rfl, ?_⟩) SW ?_
              · rintro W ⟨m, hW⟩
                subst hW
                go_simp
              go_simp
              refine wpAnyH_done (by kernel_rfl) ?_ _
              obtain ⟨q2, hq2⟩ := SW
              rw [hq2]
              clear hq2 hbb
              cases bb with
              | true =>
                have CS2 := hide CS.out
                rw [if_pos (HBB.out.1 rfl)] at CS2
                go_wp2
                go_roundw
                case rel => exact ⟨k + 1, _, by omega, by go_num, by rw [CS2.out]; go_num, rfl⟩
                case measure => simp [intOf]; omega
              | false =>
                have CS2 := hide CS.out
                rw [if_neg (fun h => by have := HBB.out.2 h; cases this)] at CS2
                go_wp2
                go_roundw
                case rel => exact ⟨k + 1, _, by omega, by go_num, by rw [CS2.out]; go_num, rfl⟩
                case measure => simp [intOf]; omega
            · obtain rfl : k = i := by omega
              have hki' : ¬ (k : Int) < (k : Int) := by omega
              generalize ((L.take k).map rkC).count (rkC x) = C at *
              go_wp2
              go_roundw
              case rel => exact ⟨k + 1, q', by omega, by go_num, by rw [PS.out]; go_num, rfl⟩
              case measure => simp [intOf]; omega
        · obtain rfl : i = 5 := by omega
          rw [show (((5 : Nat)) : Int) = (5 : Int) from rfl]
          have HPR : Hid (prL (L.map rkC) = prL ((L.take 5).map rkC)) := hide (by rw [List.take_of_length_le (by rw [H5.out]; exact Nat.le_refl _)])
          obtain ⟨P, hP⟩ : ∃ P, prL ((L.take 5).map rkC) = P := ⟨_, rfl⟩
          rw [hP] at HPR hpl' ⊢
          clear hP
          have hT13 : Hid (∀ r, (tms L).getD r 0 ≤ 13) := hide (fun r => by
            by_cases hr : r < 13
            · rw [tms_getD L r hr]
              refine Nat.le_trans List.count_le_length ?_
              rw [List.length_map, H5.out]; omega
            · rw [List.getD_eq_getElem?_getD, List.getElem?_eq_none (by rw [tms_length]; omega)]; simp)
          have HRF : Hid (refRows (tms L) = if 0 < winS 5 (tms L) then 5 * winS 5 (tms L) else if 0 < winS 4 (tms L) then 4 * winS 4 (tms L) else if 0 < winS 3 (tms L) then 3 * winS 3 (tms L) else 0) := rfl
          go_upto_block 8 with fail
          go_cut [5] (fun s wc => s = .int .i64 (F + P + refRows (tms L) : Nat) ∧ wc = w.drewN q)
          case first =>
            go_wp2_with fail
            go_loop [5, 11] (fun s5 v => ∃ l : Nat, 2 ≤ l ∧ l ≤ 5 ∧ v = .int .i64 l ∧ s5 = .int .i64 (F + P : Nat) ∧ Hid (∀ m, l < m → m ≤ 5 → winS m (tms L) = 0)) (fun _ v => (intOf v).toNat)
            case atStart => exact ⟨5, by omega, by omega, rfl, rfl, fun m h1 h2 => by omega⟩
            case round =>
              obtain ⟨l, hl2, hl5, rfl, rfl, hz⟩ := hrel
              by_cases hl3 : 3 ≤ l
              · have hl3' : (3 : Int) ≤ (l : Int) := by omega
                have wl := winS_le (tms L) l hT13.out (tms_length L) hl5
                have wa := hide (winTo_all (tms L) l (tms_length L) (by omega) (by omega))
                have wb : Hid (∀ k, k ≤ 14 - l → winTo (tms L) l k ≤ 5600000) := hide (fun k hk => winTo_le (tms L) l k hT13.out hl5 (by omega))
                have pb : Hid (∀ k, prT (tms L) k l ≤ 400000) := hide (fun k => prT_le5 (tms L) k l hT13.out hl5)
                have WL := hide wl
                clear wl
                go_wp2_with fail
                go_loop [12, 13] (fun s v => ∃ k : Nat, k ≤ 14 - l ∧ v = .int .i64 (k + 1 : Nat) ∧ s = .int .i64 (winTo (tms L) l k)) (fun _ v => 15 - (intOf v).toNat)
                case atStart => exact ⟨0, by omega, rfl, rfl⟩
                case round =>
                  obtain ⟨k, hk, rfl, rfl⟩ := hrel
                  have hwk := wb.out k hk
                  by_cases hkl : k < 14 - l
                  · have hkl' : ((k + 1 : Nat) : Int) + (l : Int) ≤ 14 := by omega
                    have hs : Hid (winTo (tms L) l (k + 1) = winTo (tms L) l k + prT (tms L) k l) := rfl
                    have hpk := pb.out k
                    have WY := hide (ways_any (some ⟨b, off, none⟩) 5 c L hlt (by omega) k l (by omega) (w.drewN q) (HRD.out.mono (drewN_below _ _ _)))
                    clear wa wb pb WL
                    generalize prT (tms L) k l = y at *
                    generalize winTo (tms L) l k = z at *
                    go_wp2_with fail
                    refine WY.out.mono ?_
                    rintro e w1 ⟨rfl, hw⟩
                    subst w1
                    go_wp2
                    go_round
                    case rel => exact ⟨k + 1, by omega, by go_num, by rw [hs.out]; go_num⟩
                    case measure => simp [intOf]; omega
                  · have hk2 : k = 14 - l := by omega
                    have hkl' : ¬ ((k + 1 : Nat) : Int) + (l : Int) ≤ 14 := by omega
                    have ew : Hid (winTo (tms L) l k = winS l (tms L)) := hide (by rw [hk2]; exact wa.out)
                    rw [ew.out] at hwk ⊢
                    by_cases h0 : 0 < winS l (tms L)
                    · have h0' : (0 : Int) < ((winS l (tms L) : Nat) : Int) := by omega
                      have RR : Hid (refRows (tms L) = l * winS l (tms L)) := hide (by
                        obtain rfl | rfl | rfl : l = 5 ∨ l = 4 ∨ l = 3 := by omega
                        · rw [HRF.out, if_pos h0]
                        · rw [HRF.out, if_neg (by rw [hz.out 5 (by omega) (by omega)]; omega), if_pos h0]
                        · rw [HRF.out, if_neg (by rw [hz.out 5 (by omega) (by omega)]; omega), if_neg (by rw [hz.out 4 (by omega) (by omega)]; omega), if_pos h0])
                      have wl := WL.out
                      clear WL ew wa wb pb hz
                      generalize winS l (tms L) = z at *
                      have hlz : l * z ≤ 28000000 := Nat.mul_le_mul hl5 wl
                      obtain ⟨y, hy⟩ : ∃ y, l * z = y := ⟨_, rfl⟩
                      have hmul : (l : Int) * (z : Int) = (y : Int) := by rw [← hy]; simp
                      rw [hy] at RR hlz
                      clear hy
                      go_wp2
                      go_meet
                      case rel => exact ⟨by rw [RR.out]; go_num, rfl⟩
                    · have h0' : ¬ (0 : Int) < ((winS l (tms L) : Nat) : Int) := by omega
                      have hz2 : Hid (∀ m, l - 1 < m → m ≤ 5 → winS m (tms L) = 0) := hide (fun m h1 h2 => by
                        by_cases hm : m = l
                        · subst hm; omega
                        · exact hz.out m (by omega) h2)
                      clear WL ew wa wb pb hz
                      generalize winS l (tms L) = z at *
                      go_wp2
                      go_round
                      case rel => exact ⟨l - 1, by omega, by omega, by go_num, rfl, hz2⟩
                      case measure => simp [intOf]; omega
              · have hl3' : ¬ (3 : Int) ≤ (l : Int) := by omega
                have RR : Hid (refRows (tms L) = 0) := hide (by
                  rw [HRF.out, if_neg (by rw [hz.out 5 (by omega) (by omega)]; omega), if_neg (by rw [hz.out 4 (by omega) (by omega)]; omega), if_neg (by rw [hz.out 3 (by omega) (by omega)]; omega)])
                go_wp2
                go_meet
                case rel => exact ⟨by rw [RR.out]; rfl, rfl⟩
          case rest =>
            obtain ⟨rfl, hwc⟩ := hcut
            subst hwc
            have hR : refRows (tms L) ≤ 28000000 := by
              have w3 := winS_le (tms L) 3 hT13.out (tms_length L) (by omega)
              have w4 := winS_le (tms L) 4 hT13.out (tms_length L) (by omega)
              have w5 := winS_le (tms L) 5 hT13.out (tms_length L) (by omega)
              rw [HRF.out]
              split
              · omega
              · split
                · omega
                · split <;> omega
            have HSH : Hid (shR L crib = F + P + refRows (tms L) + flR L crib + jkR L 4) := hide (by rw [shR, HF.out, HPR.out])
            have hjl := jkR_le L
            have HJL := hide hjl
            clear hjl HRF HF HPR hT13
            obtain ⟨N, hN⟩ : ∃ N, F + P + refRows (tms L) = N := ⟨_, rfl⟩
            have hN2 : N ≤ 28001000 := by omega
            rw [hN] at HSH ⊢
            clear hN hR hf hpl'
            have c0 := HC.out 0 (by omega)
            have c1 := HC.out 1 (by omega)
            have c2 := HC.out 2 (by omega)
            have c3 := HC.out 3 (by omega)
            have c4 := HC.out 4 (by omega)
            rw [toI_getD] at c0 c1 c2 c3 c4
            rw [Nat.add_zero] at c0
            have m0 := hlt _ (mem_getD L 0 (by rw [H5.out]; omega))
            have m1 := hlt _ (mem_getD L 1 (by rw [H5.out]; omega))
            have m2 := hlt _ (mem_getD L 2 (by rw [H5.out]; omega))
            have m3 := hlt _ (mem_getD L 3 (by rw [H5.out]; omega))
            have m4 := hlt _ (mem_getD L 4 (by rw [H5.out]; omega))
            have HFL : Hid (flR L crib = if L.getD 0 0 % 4 = L.getD 1 0 % 4 ∧ L.getD 0 0 % 4 = L.getD 2 0 % 4 ∧ L.getD 0 0 % 4 = L.getD 3 0 % 4 then (if L.getD 0 0 % 4 = L.getD 4 0 % 4 then 5 else if crib then 0 else 4) else 0) := rfl
            obtain ⟨x0, hx0⟩ : ∃ x, L.getD 0 0 = x := ⟨_, rfl⟩
            obtain ⟨x1, hx1⟩ : ∃ x, L.getD 1 0 = x := ⟨_, rfl⟩
            obtain ⟨x2, hx2⟩ : ∃ x, L.getD 2 0 = x := ⟨_, rfl⟩
            obtain ⟨x3, hx3⟩ : ∃ x, L.getD 3 0 = x := ⟨_, rfl⟩
            obtain ⟨x4, hx4⟩ : ∃ x, L.getD 4 0 = x := ⟨_, rfl⟩
            have HX4 := hide hx4
            rw [hx0] at c0 m0 HFL
            rw [hx1] at c1 m1 HFL
            rw [hx2] at c2 m2 HFL
            rw [hx3] at c3 m3 HFL
            rw [hx4] at c4 m4 HFL
            clear hx0 hx1 hx2 hx3 hx4
            go_upto_region 31 with fail
            go_cut [114] (fun s wc => s = .bool (decide (x0 % 4 = x1 % 4 ∧ x0 % 4 = x2 % 4 ∧ x0 % 4 = x3 % 4)) ∧ ∃ m, wc = w.drewN m)
            case first =>
              by_cases e1 : x0 % 4 = x1 % 4
              · have d1 : (x0 : Int) % 4 = (x1 : Int) % 4 := by omega
                by_cases e2 : x0 % 4 = x2 % 4
                · have d2 : (x0 : Int) % 4 = (x2 : Int) % 4 := by omega
                  have b1 : ((x0 : Int) % 4 == (x1 : Int) % 4) = true := by simp; omega
                  have b2 : ((x0 : Int) % 4 == (x2 : Int) % 4) = true := by simp; omega
                  have HD : Hid (decide (x0 % 4 = x1 % 4 ∧ x0 % 4 = x2 % 4 ∧ x0 % 4 = x3 % 4) = ((x0 : Int) % 4 == (x3 : Int) % 4)) := hide (by rw [Bool.eq_iff_iff]; simp [e2]; omega)
                  clear e1 e2 d1 d2
                  go_quiet (fail)
                  go_wp2_with fail
                  go_meet
                  case rel => exact ⟨by rw [HD.out], _, by first | rfl | exact World.drewN_drewN _ _ _⟩
                · have b1 : ((x0 : Int) % 4 == (x1 : Int) % 4) = true := by simp; omega
                  have b2 : ((x0 : Int) % 4 == (x2 : Int) % 4) = false := by simp; omega
                  have HD : Hid (decide (x0 % 4 = x1 % 4 ∧ x0 % 4 = x2 % 4 ∧ x0 % 4 = x3 % 4) = false) := hide (by simp [e2])
                  clear e1 e2 d1
                  go_quiet (fail)
                  go_wp2_with fail
                  go_meet
                  case rel => exact ⟨by rw [HD.out], _, by first | rfl | exact World.drewN_drewN _ _ _⟩
              · have b1 : ((x0 : Int) % 4 == (x1 : Int) % 4) = false := by simp; omega
                have HD : Hid (decide (x0 % 4 = x1 % 4 ∧ x0 % 4 = x2 % 4 ∧ x0 % 4 = x3 % 4) = false) := hide (by simp [e1])
                clear e1
                go_quiet (fail)
                go_wp2_with fail
                go_meet
                case rel => exact ⟨by rw [HD.out], _, by first | rfl | exact World.drewN_drewN _ _ _⟩
            case rest =>
              obtain ⟨rfl, m9, hwc⟩ := hcut
              subst hwc
              have HFL2 : Hid (flR L crib = if decide (x0 % 4 = x1 % 4 ∧ x0 % 4 = x2 % 4 ∧ x0 % 4 = x3 % 4) = true then (if x0 % 4 = x4 % 4 then 5 else if crib then 0 else 4) else 0) := hide (by rw [HFL.out]; simp only [decide_eq_true_eq])
              clear HFL
              generalize decide (x0 % 4 = x1 % 4 ∧ x0 % 4 = x2 % 4 ∧ x0 % 4 = x3 % 4) = D at *
              have hfl5 : flR L crib ≤ 5 := by
                rw [HFL2.out]
                split
                · split
                  · omega
                  · split <;> omega
                · omega
              go_upto_if 114 with fail
              go_cut [5] (fun s wc => s = .int .i64 (N + flR L crib : Nat) ∧ ∃ m, wc = w.drewN m)
              case first =>
                cases D with
                | false =>
                  have HZ : Hid (flR L crib = 0) := hide (by rw [HFL2.out]; rfl)
                  clear HFL2 hfl5
                  go_wp2
                  go_meet
                  case rel => exact ⟨by rw [HZ.out]; rfl, _, rfl⟩
                | true =>
                  by_cases e4 : x0 % 4 = x4 % 4
                  · have d4 : (x0 : Int) % 4 = (x4 : Int) % 4 := by omega
                    have HZ : Hid (flR L crib = 5) := hide (by rw [HFL2.out, if_pos rfl, if_pos e4])
                    clear HFL2 hfl5 e4
                    go_wp2
                    go_quiet (fail)
                    go_wp2
                    go_meet
                    case rel => exact ⟨by rw [HZ.out]; go_num, _, rfl⟩
                  · have d4 : ((x0 : Int) % 4 == (x4 : Int) % 4) = false := by simp; omega
                    cases crib with
                    | false =>
                      have HZ : Hid (flR L false = 4) := hide (by rw [HFL2.out, if_pos rfl, if_neg e4]; rfl)
                      clear HFL2 hfl5 e4
                      go_wp2
                      go_quiet (fail)
                      go_wp2
                      go_meet
                      case rel => exact ⟨by rw [HZ.out]; go_num, _, rfl⟩
                    | true =>
                      have HZ : Hid (flR L true = 0) := hide (by rw [HFL2.out, if_pos rfl, if_neg e4]; rfl)
                      clear HFL2 hfl5 e4
                      go_wp2
                      go_quiet (fail)
                      go_wp2
                      go_meet
                      case rel => exact ⟨by rw [HZ.out]; rfl, _, rfl⟩
              case rest =>
                obtain ⟨rfl, m8, hwc⟩ := hcut
                subst hwc
                clear HFL2
                obtain ⟨M, hM⟩ : ∃ M, N + flR L crib = M := ⟨_, rfl⟩
                rw [hM] at HSH ⊢
                have hM2 : M ≤ 28002000 := by omega
                clear hM hfl5 hN2 c0 c1 c2 c3
                go_wp2
                go_loopw [5, 14] (fun s v wr => ∃ k q' : Nat, k ≤ 4 ∧ v = .int .i64 k ∧ s = .int .i64 (M + jkR L k : Nat) ∧ wr = w.drewN q') (fun _ v _ => 4 - (intOf v).toNat)
                case atStart => exact ⟨0, m8, by omega, rfl, rfl, rfl⟩
                case round =>
                  obtain ⟨k, q', hk, rfl, rfl, rfl⟩ := hrel
                  have hjk := HJL.out k
                  by_cases hk4 : k < 4
                  · have hk4' : (k : Int) < 4 := by omega
                    have hk5' : (k : Int) < 5 := by omega
                    have hkl : k < L.length := by rw [H5.out]; omega
                    have r2 := HC.out k (by omega)
                    rw [toI_getD] at r2
                    have hm2 := hlt _ (mem_getD L k hkl)
                    have hj : jkR L (k + 1) = if rkC (L.getD k 0) = 10 ∧ L.getD k 0 % 4 = L.getD 4 0 % 4 then jkR L k + 1 else jkR L k := rfl
                    obtain ⟨y, hy⟩ : ∃ y, L.getD k 0 = y := ⟨_, rfl⟩
                    rw [hy, HX4.out] at hj
                    rw [hy] at r2 hm2
                    have P2 := hide (pipOf_any y hm2)
                    obtain ⟨ry, hry⟩ : ∃ r, rkC y = r := ⟨_, rfl⟩
                    rw [hry] at P2 hj
                    have hr13 : ry < 13 := by rw [← hry]; exact rkC_lt y
                    clear hy hry hkl
                    generalize jkR L k = j at *
                    by_cases h10 : ry = 10
                    · have hb : (((ry + 1 : Nat) : Int) == 11) = true := by simp; omega
                      have hb2 : ((ry : Int) + 1 == 11) = true := by simp; omega
                      by_cases e4 : y % 4 = x4 % 4
                      · have d4 : (y : Int) % 4 = (x4 : Int) % 4 := by omega
                        rw [if_pos ⟨h10, e4⟩] at hj
                        have HJ := hide hj
                        clear hj e4 h10
                        go_wp2
                        go_quiet ((go_at_call 26; exact (P2.out _).mono (fun _ _ ⟨he, hw⟩ => ⟨he, _, hw⟩)))
                        go_wp2
                        go_roundw
                        case rel => exact ⟨k + 1, _, by omega, by go_num, by rw [HJ.out]; go_num, rfl⟩
                        case measure => simp [intOf]; omega
                      · have d4 : ((y : Int) % 4 == (x4 : Int) % 4) = false := by simp; omega
                        rw [if_neg (fun h => e4 h.2)] at hj
                        have HJ := hide hj
                        clear hj e4 h10
                        go_wp2
                        go_quiet ((go_at_call 26; exact (P2.out _).mono (fun _ _ ⟨he, hw⟩ => ⟨he, _, hw⟩)))
                        go_wp2
                        go_roundw
                        case rel => exact ⟨k + 1, _, by omega, by go_num, by rw [HJ.out], rfl⟩
                        case measure => simp [intOf]; omega
                    · have hb : (((ry + 1 : Nat) : Int) == 11) = false := by simp; omega
                      have hb2 : ((ry : Int) + 1 == 11) = false := by simp; omega
                      rw [if_neg (fun h => h10 h.1)] at hj
                      have HJ := hide hj
                      clear hj h10
                      go_wp2
                      go_quiet ((go_at_call 26; exact (P2.out _).mono (fun _ _ ⟨he, hw⟩ => ⟨he, _, hw⟩)))
                      go_wp2
                      go_roundw
                      case rel => exact ⟨k + 1, _, by omega, by go_num, by rw [HJ.out], rfl⟩
                      case measure => simp [intOf]; omega
                  · obtain rfl : k = 4 := by omega
                    rw [show (((4 : Nat)) : Int) = (4 : Int) from rfl]
                    go_wp2
                    go_ret
                    exact ⟨ret_intN (by rw [HSH.out]), _, rfl⟩

end Go.Proofs.Ytneafmjbekafmaa
