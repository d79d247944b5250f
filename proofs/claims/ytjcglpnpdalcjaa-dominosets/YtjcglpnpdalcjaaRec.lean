/-
  How many rows there are, by a function that calls itself. No conditions beyond those that each theorem bears.
-/
import Derived.Test.YtjcglpnpdalcjaaCnt
namespace Go.Proofs.Ytjcglpnpdalcjaa
open Go.RowKit
attribute [local go_sem] build35 run_eq35 guard35

def sumTo (g : Nat → Nat) : Nat → Nat
  | 0 => 0
  | k + 1 => sumTo g k + g k

def pr (v x : Nat) : Pc := lf ((v : Int), (x : Int))

/-- How many rows of k pieces of m go on from the end v. -/
def rwN : Nat → List Pc → Nat → Nat
  | 0, _, _ => 1
  | k + 1, m, v => sumTo (fun x => if pr v x ∈ m then rwN k (m.erase (pr v x)) x else 0) 10

theorem sumTo_le (g : Nat → Nat) (B : Nat) (h : ∀ x, g x ≤ B) (k : Nat) : sumTo g k ≤ k * B := by
  induction k with
  | zero => simp [sumTo]
  | succ k ih => rw [sumTo, Nat.succ_mul]; have := h k; omega

theorem rwN_le (k : Nat) : ∀ m v, rwN k m v ≤ 10 ^ k := by
  induction k with
  | zero => intro m v; simp [rwN]
  | succ k ih =>
    intro m v
    rw [rwN, Nat.pow_succ, Nat.mul_comm]
    refine sumTo_le _ _ (fun x => ?_) 10
    split
    · exact ih _ _
    · exact Nat.zero_le _

theorem pow_bound (k : Nat) (h : k ≤ 7) : 10 ^ k ≤ 10000000 := by
  have : 10 ^ k ≤ 10 ^ 7 := Nat.pow_le_pow_right (by omega) h
  simpa using this

theorem cntF_erase (m : List Pc) (p : Pc) : cntF (m.erase p) = upd (cntF m) p (cntF m p - 1) := by
  funext q
  by_cases h : q = p
  · subst h; simp [cntF, upd, List.count_erase_self]
  · simp [cntF, upd, h, List.count_erase_of_ne h]

theorem cntF_back (m : List Pc) (p : Pc) (h : p ∈ m) : upd (cntF (m.erase p)) p (cntF (m.erase p) p + 1) = cntF m := by
  have hc : 0 < m.count p := List.count_pos_iff.2 h
  funext q
  by_cases hq : q = p
  · subst hq; simp [cntF, upd, List.count_erase_self]; omega
  · simp [cntF, upd, hq, List.count_erase_of_ne hq]

theorem cntF_pos (m : List Pc) (p : Pc) : 0 < cntF m p ↔ p ∈ m := List.count_pos_iff
theorem cntF_le (m : List Pc) (p : Pc) : cntF m p ≤ m.length := List.count_le_length

theorem map_ne {w : World} {b l : Nat} {f : Pc → Nat} {v : Value} (h : Mp w b f) {i : Nat} (hc : w.cell? ⟨l, i, none⟩ = some v) : some l ≠ some b := by
  rintro e
  obtain rfl := Option.some.inj e
  obtain ⟨es, clock, hb, _⟩ := h
  simp [World.cell?, hb] at hc


set_option maxRecDepth 100000 in
set_option maxHeartbeats 16000000 in
theorem rows1_any (lb gb mb : Nat) : ∀ (k : Nat), k ≤ 7 → ∀ (m : List Pc) (v : Nat), v < 10 → ∀ (w : World), Mp w mb (cntF m) → w.cell? ⟨lb, 0, none⟩ = some (.map (some mb)) →
    w.cell? ⟨gb, 0, none⟩ = some (.func (.func 26) #[] #[.pointer (some ⟨lb, 0, none⟩), .pointer (some ⟨gb, 0, none⟩)]) → m.length ≤ 1000 →
    Calls Try.prog 26 #[.int .i64 v, .int .i64 k, .pointer (some ⟨lb, 0, none⟩), .pointer (some ⟨gb, 0, none⟩)] w fun e w' => e = .returned (.int .i64 (rwN k m v)) ∧ Mp w' mb (cntF m) ∧ w.grownBy w' (some mb) := by
  intro k
  induction k with
  | zero =>
    intro _ m v hv w hM hl hg hlen
    have HM := hide hM
    go_enter Try.func26, Try.ntmps26
    go_wp2_with fail
    go_ret
    exact ⟨rfl, HM.out, World.grownBy.refl _ _⟩
  | succ k ih0 =>
    intro hk m v hv w hM hl hg hlen
    have ih := ih0 (by omega)
    clear ih0
    have HM := hide hM
    have HL := hide hl
    have HG := hide hg
    clear hM hl hg
    have HRW : Hid (rwN (k + 1) m v = sumTo (fun x => if pr v x ∈ m then rwN k (m.erase (pr v x)) x else 0) 10) := hide rfl
    obtain ⟨K, hK⟩ : ∃ K, K = k + 1 := ⟨_, rfl⟩
    rw [← hK] at HRW hk ⊢
    have hk0 : ((K : Int) == 0) = false := by simp; omega
    have hk1 : (K : Int) - 1 = (k : Int) := by omega
    have HK := hide hK
    clear hK
    go_enter Try.func26, Try.ntmps26
    go_wp2_with fail
    go_loopw [7, 12] (fun s u wr => ∃ i : Nat, i ≤ 10 ∧ u = .int .i64 i ∧ Hid (s = .int .i64 ((sumTo (fun x => if pr v x ∈ m then rwN k (m.erase (pr v x)) x else 0) i : Nat) : Int)) ∧ Hid (Mp wr mb (cntF m)) ∧ Hid (w.grownBy wr (some mb))) (fun _ u _ => 10 - (intOf u).toNat)
    case atStart => exact ⟨0, by omega, rfl, hide rfl, HM, hide (World.grownBy.refl _ _)⟩
    case round =>
      rename_i s u wr
      obtain ⟨i, hi, rfl, HS, HMr, HGr⟩ := hrel
      have hs := HS.out
      subst hs
      by_cases hi10 : i < 10
      · have hi' : (i : Int) < 10 := by omega
        have l3 := HGr.out.cell HL.out (map_ne HM.out HL.out)
        have g3 := HGr.out.cell HG.out (map_ne HM.out HG.out)
        go_wp2_with fail
        refine (lesserFirst_any ((v : Int), (i : Int)) _).mono ?_
        rintro e w3 ⟨rfl, hB3⟩
        obtain ⟨P1, P2, hP⟩ : ∃ P1 P2, lf ((v : Int), (i : Int)) = (P1, P2) := ⟨_, _, rfl⟩
        rw [hP]
        have HPR : Hid (pr v i = (P1, P2)) := hide hP
        have M3 := HMr.out.below hB3
        have l3' := (hB3.cell (p := ⟨lb, 0, none⟩) (World.block_lt_of_cell? _ _ l3)).trans l3
        have g3' := (hB3.cell (p := ⟨gb, 0, none⟩) (World.block_lt_of_cell? _ _ g3)).trans g3
        have HG3 := hide (grown_trans HGr.out (grown_below hB3))
        clear hB3 HGr HMr l3 g3 hP
        rw [show pv (P1, P2) = Value.agg #[.int .i64 P1, .int .i64 P2] from rfl]
        have B4 : Below w3.heap.size w3 (w3.alloc (.cells #[.int .i64 P1, .int .i64 P2] 35)) := (Below.refl _ _).alloc (Nat.le_refl _) _
        have M3' := M3.below B4
        have l4 := (B4.cell (p := ⟨lb, 0, none⟩) (World.block_lt_of_cell? _ _ l3')).trans l3'
        have g4 := (B4.cell (p := ⟨gb, 0, none⟩) (World.block_lt_of_cell? _ _ g3')).trans g3'
        have HG4 := hide (grown_trans HG3.out (grown_below B4))
        have q0 : (w3.alloc (.cells #[.int .i64 P1, .int .i64 P2] 35)).cell? ⟨w3.heap.size, 0, none⟩ = some (.int .i64 P1) := by go_simp
        have q1 : (w3.alloc (.cells #[.int .i64 P1, .int .i64 P2] 35)).cell? ⟨w3.heap.size, 1, none⟩ = some (.int .i64 P2) := by go_simp
        have hL4 := M3'.look (P1, P2)
        rw [show pv (P1, P2) = Value.agg #[.int .i64 P1, .int .i64 P2] from rfl] at hL4
        clear B4 M3 l3' g3' HG3
        generalize hwp : w3.heap.size = wp at *
        generalize hw4 : w3.alloc (.cells #[.int .i64 P1, .int .i64 P2] 35) = w4 at *
        by_cases hin : (P1, P2) ∈ m
        · have HIN := hide hin
          have hpos : (0 : Int) < ((cntF m (P1, P2) : Nat) : Int) := by have := (cntF_pos m (P1, P2)).2 hin; omega
          have HLE := hide (Nat.le_trans (cntF_le m (P1, P2)) hlen)
          have HCAST : Hid (((cntF m (P1, P2) - 1 : Nat) : Int) = ((cntF m (P1, P2) : Nat) : Int) - 1) := hide (by omega)
          clear hin
          go_wp2_with fail
          try clear hL4 hpos
          refine wp_region_held (S := fun W => w4.grownBy W (some mb)) (by kernel_rfl) ?_
          change wpAnyH _ _ _ _ _ _ _ _ (World.drew _)
          have SW : w4.grownBy w4.drew (some mb) := grown_drew _ _
          have M1 : Mp w4.drew mb (cntF m) := M3'.of_block rfl
          have HL0 : Hid (∀ W, w4.grownBy W (some mb) → W.cell? ⟨lb, 0, none⟩ = some (.map (some mb))) := hide (fun W hW => hW.cell l4 (map_ne M3' l4))
          have HE0 : Hid (∀ W, w4.grownBy W (some mb) → W.cell? ⟨wp, 0, none⟩ = some (.int .i64 P1)) := hide (fun W hW => hW.cell q0 (map_ne M3' q0))
          have HE1 : Hid (∀ W, w4.grownBy W (some mb) → W.cell? ⟨wp, 1, none⟩ = some (.int .i64 P2)) := hide (fun W hW => hW.cell q1 (map_ne M3' q1))
          refine wpAnyH_take (i := 0) (v := .map (some mb)) rfl (by kernel_rfl) (by kernel_rfl) (by kernel_rfl) (fun _ _ _ h => h) (Or.inl ⟨by rfl, ?_⟩) SW ?_
          · intro W hW
            have f0 := HL0.out W hW
            go_simp
          go_simp
          refine wpAnyH_take (i := 1) (v := .agg #[.int .i64 P1, .int .i64 P2]) rfl (by kernel_rfl) (by kernel_rfl) (by kernel_rfl) (fun _ _ _ h => h) (Or.inl ⟨by rfl, ?_⟩) SW ?_
          · intro W hW
            have f0 := HE0.out W hW
            have f1 := HE1.out W hW
            go_simp
          go_simp
          clear HL0 HE0 HE1
          refine wpAnyH_ready (rs := [2, 4]) (by kernel_rfl) (by simp) ?_
          refine AllReadyH.cons rfl (fun K1 hK1 => ?_) (AllReadyH.cons rfl (fun K1 hK1 => ?_) AllReadyH.nil)
          · have hL := M1.look (P1, P2)
            rw [show pv (P1, P2) = Value.agg #[.int .i64 P1, .int .i64 P2] from rfl] at hL
            go_simp
            refine hK1.out _ _ SW (fun SW => ?_)
            clear hK1 K1 hL
            refine wpAnyH_take (i := 3) (v := .int .i64 (((cntF m (P1, P2) : Nat) : Int) - 1)) rfl (by kernel_rfl) (by kernel_rfl) (by kernel_rfl) (fun _ _ _ h => h) (Or.inl ⟨by rfl, ?_⟩) SW ?_
            · intro W hW
              go_simp
              rw [IntKind.wrap_i64]
              have := HLE.out
              omega
            go_simp
            refine wpAnyH_ready (rs := [4]) (by kernel_rfl) (by simp) ?_
            refine AllReadyH.cons rfl (fun K1 hK1 => ?_) AllReadyH.nil
            obtain ⟨v0, st, w5, hE, M3, hAt, hG5, -⟩ := M1.entry (P1, P2)
            rw [show pv (P1, P2) = Value.agg #[.int .i64 P1, .int .i64 P2] from rfl] at hE
            go_simp
            refine hK1.out _ _ (grown_trans SW hG5) (fun SW => ?_)
            clear hK1 K1 hE
            refine wpAnyH_take (i := 5) (v := .int .i64 ((st : Nat) : Int)) rfl (by kernel_rfl) (by kernel_rfl) (by kernel_rfl) (fun _ _ _ h => h) (Or.inl ⟨by rfl, ?_⟩) SW ?_
            · intro W hW
              go_simp
            go_simp
            refine wpAnyH_ready (rs := [6]) (by kernel_rfl) (by simp) ?_
            refine AllReadyH.cons rfl (fun K1 hK1 => ?_) AllReadyH.nil
            obtain ⟨w6, hS, M4, hG6⟩ := M3.store hAt (cntF m (P1, P2) - 1)
            rw [HCAST.out] at hS
            go_simp
            refine hK1.out _ _ (grown_trans SW hG6) (fun SW => ?_)
            clear hK1 K1 hS
            refine wpAnyH_done (by kernel_rfl) ?_ _
            clear M3 hAt hG5 hG6 M1
            have M5 : Mp w6 mb (cntF (m.erase (P1, P2))) := by rw [cntF_erase]; exact M4
            have l6 := SW.cell l4 (map_ne M3' l4)
            have g6 := SW.cell g4 (map_ne M3' g4)
            have t0 := SW.cell q0 (map_ne M3' q0)
            have t1 := SW.cell q1 (map_ne M3' q1)
            have HG6 := hide (grown_trans HG4.out SW)
            have HM5 := hide M5
            clear SW M4 M5 M3' l4 g4 q0 q1 HG4 HLE HCAST
            go_wp2_with fail
            refine (ih (m.erase (P1, P2)) i hi10 w6 HM5.out l6 g6 (by rw [List.length_erase_of_mem HIN.out]; omega)).mono ?_
            rintro e w7 ⟨rfl, M7, hG7⟩
            have l7 := hG7.cell l6 (map_ne HM5.out l6)
            have u0 := hG7.cell t0 (map_ne HM5.out t0)
            have u1 := hG7.cell t1 (map_ne HM5.out t1)
            have HG7 := hide (grown_trans HG6.out hG7)
            have HLE := hide (cntF_le (m.erase (P1, P2)) (P1, P2))
            have hel : (m.erase (P1, P2)).length ≤ 1000 := by have := List.length_erase_le (a := (P1, P2)) (l := m); omega
            have HLE := hide (Nat.le_trans HLE.out hel)
            have HCAST : Hid (((cntF (m.erase (P1, P2)) (P1, P2) + 1 : Nat) : Int) = ((cntF (m.erase (P1, P2)) (P1, P2) : Nat) : Int) + 1) := hide rfl
            have hrle := rwN_le k (m.erase (P1, P2)) i
            have hsle := sumTo_le (fun x => if pr v x ∈ m then rwN k (m.erase (pr v x)) x else 0) (10 ^ k) (fun x => by split; exact rwN_le _ _ _; exact Nat.zero_le _) i
            have hpw := pow_bound k (by have := HK.out; omega)
            have hsl2 : sumTo (fun x => if pr v x ∈ m then rwN k (m.erase (pr v x)) x else 0) i ≤ 100000000 := Nat.le_trans hsle (Nat.le_trans (Nat.mul_le_mul (show i ≤ 10 by omega) hpw) (by omega))
            have hrl2 : rwN k (m.erase (P1, P2)) i ≤ 10000000 := Nat.le_trans hrle hpw
            have HSUM : Hid (sumTo (fun x => if pr v x ∈ m then rwN k (m.erase (pr v x)) x else 0) (i + 1) = sumTo (fun x => if pr v x ∈ m then rwN k (m.erase (pr v x)) x else 0) i + rwN k (m.erase (P1, P2)) i) := hide (by
              show _ + (if pr v i ∈ m then rwN k (m.erase (pr v i)) i else 0) = _
              rw [HPR.out, if_pos HIN.out])
            generalize hSM : sumTo (fun x => if pr v x ∈ m then rwN k (m.erase (pr v x)) x else 0) i = SM at *
            generalize hRW : rwN k (m.erase (P1, P2)) i = RW at *
            clear hrle hsle hpw hSM hRW hG7 hel
            go_wp2_with fail
            refine wp_region_held (S := fun W => w7.grownBy W (some mb)) (by kernel_rfl) ?_
            change wpAnyH _ _ _ _ _ _ _ _ (World.drew _)
            have SW : w7.grownBy w7.drew (some mb) := grown_drew _ _
            have M1 : Mp w7.drew mb (cntF (m.erase (P1, P2))) := M7.of_block rfl
            have HL0 : Hid (∀ W, w7.grownBy W (some mb) → W.cell? ⟨lb, 0, none⟩ = some (.map (some mb))) := hide (fun W hW => hW.cell l7 (map_ne M7 l7))
            have HE0 : Hid (∀ W, w7.grownBy W (some mb) → W.cell? ⟨wp, 0, none⟩ = some (.int .i64 P1)) := hide (fun W hW => hW.cell u0 (map_ne M7 u0))
            have HE1 : Hid (∀ W, w7.grownBy W (some mb) → W.cell? ⟨wp, 1, none⟩ = some (.int .i64 P2)) := hide (fun W hW => hW.cell u1 (map_ne M7 u1))
            refine wpAnyH_take (i := 0) (v := .map (some mb)) rfl (by kernel_rfl) (by kernel_rfl) (by kernel_rfl) (fun _ _ _ h => h) (Or.inl ⟨by rfl, ?_⟩) SW ?_
            · intro W hW
              have f0 := HL0.out W hW
              go_simp
            go_simp
            refine wpAnyH_take (i := 1) (v := .agg #[.int .i64 P1, .int .i64 P2]) rfl (by kernel_rfl) (by kernel_rfl) (by kernel_rfl) (fun _ _ _ h => h) (Or.inl ⟨by rfl, ?_⟩) SW ?_
            · intro W hW
              have f0 := HE0.out W hW
              have f1 := HE1.out W hW
              go_simp
            go_simp
            clear HL0 HE0 HE1
            refine wpAnyH_ready (rs := [2, 4]) (by kernel_rfl) (by simp) ?_
            refine AllReadyH.cons rfl (fun K1 hK1 => ?_) (AllReadyH.cons rfl (fun K1 hK1 => ?_) AllReadyH.nil)
            · have hL := M1.look (P1, P2)
              rw [show pv (P1, P2) = Value.agg #[.int .i64 P1, .int .i64 P2] from rfl] at hL
              go_simp
              refine hK1.out _ _ SW (fun SW => ?_)
              clear hK1 K1 hL
              refine wpAnyH_take (i := 3) (v := .int .i64 (((cntF (m.erase (P1, P2)) (P1, P2) : Nat) : Int) + 1)) rfl (by kernel_rfl) (by kernel_rfl) (by kernel_rfl) (fun _ _ _ h => h) (Or.inl ⟨by rfl, ?_⟩) SW ?_
              · intro W hW
                go_simp
                rw [IntKind.wrap_i64]
                have := HLE.out
                omega
              go_simp
              refine wpAnyH_ready (rs := [4]) (by kernel_rfl) (by simp) ?_
              refine AllReadyH.cons rfl (fun K1 hK1 => ?_) AllReadyH.nil
              obtain ⟨v0, st, w5, hE, M3, hAt, hG5, -⟩ := M1.entry (P1, P2)
              rw [show pv (P1, P2) = Value.agg #[.int .i64 P1, .int .i64 P2] from rfl] at hE
              go_simp
              refine hK1.out _ _ (grown_trans SW hG5) (fun SW => ?_)
              clear hK1 K1 hE
              refine wpAnyH_take (i := 5) (v := .int .i64 ((st : Nat) : Int)) rfl (by kernel_rfl) (by kernel_rfl) (by kernel_rfl) (fun _ _ _ h => h) (Or.inl ⟨by rfl, ?_⟩) SW ?_
              · intro W hW
                go_simp
              go_simp
              refine wpAnyH_ready (rs := [6]) (by kernel_rfl) (by simp) ?_
              refine AllReadyH.cons rfl (fun K1 hK1 => ?_) AllReadyH.nil
              obtain ⟨w6, hS, M4, hG6⟩ := M3.store hAt (cntF (m.erase (P1, P2)) (P1, P2) + 1)
              rw [HCAST.out] at hS
              go_simp
              refine hK1.out _ _ (grown_trans SW hG6) (fun SW => ?_)
              clear hK1 K1 hS
              refine wpAnyH_done (by kernel_rfl) ?_ _
              clear M3 hAt hG5 hG6 M1
              have HM6 : Hid (Mp w6 mb (cntF m)) := hide (by rw [← cntF_back m (P1, P2) HIN.out]; exact M4)
              have HG6 := hide (grown_trans HG7.out SW)
              clear SW M4
              go_wp2_with fail
              go_roundw
              case rel => exact ⟨i + 1, by omega, by go_num, hide (by rw [HSUM.out]; go_num), HM6, HG6⟩
              case measure => simp [intOf]; omega
            · obtain ⟨v0, st, w5, hE, M3, hAt, hG5, -⟩ := M1.entry (P1, P2)
              rw [show pv (P1, P2) = Value.agg #[.int .i64 P1, .int .i64 P2] from rfl] at hE
              go_simp
              refine hK1.out _ _ (grown_trans SW hG5) (fun SW => ?_)
              clear hK1 K1 hE
              refine wpAnyH_take (i := 5) (v := .int .i64 ((st : Nat) : Int)) rfl (by kernel_rfl) (by kernel_rfl) (by kernel_rfl) (fun _ _ _ h => h) (Or.inl ⟨by rfl, ?_⟩) SW ?_
              · intro W hW
                go_simp
              go_simp
              refine wpAnyH_ready (rs := [2]) (by kernel_rfl) (by simp) ?_
              refine AllReadyH.cons rfl (fun K1 hK1 => ?_) AllReadyH.nil
              have hL := M3.look (P1, P2)
              rw [show pv (P1, P2) = Value.agg #[.int .i64 P1, .int .i64 P2] from rfl] at hL
              go_simp
              refine hK1.out _ _ SW (fun SW => ?_)
              clear hK1 K1 hL
              refine wpAnyH_take (i := 3) (v := .int .i64 (((cntF (m.erase (P1, P2)) (P1, P2) : Nat) : Int) + 1)) rfl (by kernel_rfl) (by kernel_rfl) (by kernel_rfl) (fun _ _ _ h => h) (Or.inl ⟨by rfl, ?_⟩) SW ?_
              · intro W hW
                go_simp
                rw [IntKind.wrap_i64]
                have := HLE.out
                omega
              go_simp
              refine wpAnyH_ready (rs := [6]) (by kernel_rfl) (by simp) ?_
              refine AllReadyH.cons rfl (fun K1 hK1 => ?_) AllReadyH.nil
              obtain ⟨w6, hS, M4, hG6⟩ := M3.store hAt (cntF (m.erase (P1, P2)) (P1, P2) + 1)
              rw [HCAST.out] at hS
              go_simp
              refine hK1.out _ _ (grown_trans SW hG6) (fun SW => ?_)
              clear hK1 K1 hS
              refine wpAnyH_done (by kernel_rfl) ?_ _
              clear M3 hAt hG5 hG6 M1
              have HM6 : Hid (Mp w6 mb (cntF m)) := hide (by rw [← cntF_back m (P1, P2) HIN.out]; exact M4)
              have HG6 := hide (grown_trans HG7.out SW)
              clear SW M4
              go_wp2_with fail
              go_roundw
              case rel => exact ⟨i + 1, by omega, by go_num, hide (by rw [HSUM.out]; go_num), HM6, HG6⟩
              case measure => simp [intOf]; omega
          · obtain ⟨v0, st, w5, hE, M3, hAt, hG5, -⟩ := M1.entry (P1, P2)
            rw [show pv (P1, P2) = Value.agg #[.int .i64 P1, .int .i64 P2] from rfl] at hE
            go_simp
            refine hK1.out _ _ (grown_trans SW hG5) (fun SW => ?_)
            clear hK1 K1 hE
            refine wpAnyH_take (i := 5) (v := .int .i64 ((st : Nat) : Int)) rfl (by kernel_rfl) (by kernel_rfl) (by kernel_rfl) (fun _ _ _ h => h) (Or.inl ⟨by rfl, ?_⟩) SW ?_
            · intro W hW
              go_simp
            go_simp
            refine wpAnyH_ready (rs := [2]) (by kernel_rfl) (by simp) ?_
            refine AllReadyH.cons rfl (fun K1 hK1 => ?_) AllReadyH.nil
            have hL := M3.look (P1, P2)
            rw [show pv (P1, P2) = Value.agg #[.int .i64 P1, .int .i64 P2] from rfl] at hL
            go_simp
            refine hK1.out _ _ SW (fun SW => ?_)
            clear hK1 K1 hL
            refine wpAnyH_take (i := 3) (v := .int .i64 (((cntF m (P1, P2) : Nat) : Int) - 1)) rfl (by kernel_rfl) (by kernel_rfl) (by kernel_rfl) (fun _ _ _ h => h) (Or.inl ⟨by rfl, ?_⟩) SW ?_
            · intro W hW
              go_simp
              rw [IntKind.wrap_i64]
              have := HLE.out
              omega
            go_simp
            refine wpAnyH_ready (rs := [6]) (by kernel_rfl) (by simp) ?_
            refine AllReadyH.cons rfl (fun K1 hK1 => ?_) AllReadyH.nil
            obtain ⟨w6, hS, M4, hG6⟩ := M3.store hAt (cntF m (P1, P2) - 1)
            rw [HCAST.out] at hS
            go_simp
            refine hK1.out _ _ (grown_trans SW hG6) (fun SW => ?_)
            clear hK1 K1 hS
            refine wpAnyH_done (by kernel_rfl) ?_ _
            clear M3 hAt hG5 hG6 M1
            have M5 : Mp w6 mb (cntF (m.erase (P1, P2))) := by rw [cntF_erase]; exact M4
            have l6 := SW.cell l4 (map_ne M3' l4)
            have g6 := SW.cell g4 (map_ne M3' g4)
            have t0 := SW.cell q0 (map_ne M3' q0)
            have t1 := SW.cell q1 (map_ne M3' q1)
            have HG6 := hide (grown_trans HG4.out SW)
            have HM5 := hide M5
            clear SW M4 M5 M3' l4 g4 q0 q1 HG4 HLE HCAST
            go_wp2_with fail
            refine (ih (m.erase (P1, P2)) i hi10 w6 HM5.out l6 g6 (by rw [List.length_erase_of_mem HIN.out]; omega)).mono ?_
            rintro e w7 ⟨rfl, M7, hG7⟩
            have l7 := hG7.cell l6 (map_ne HM5.out l6)
            have u0 := hG7.cell t0 (map_ne HM5.out t0)
            have u1 := hG7.cell t1 (map_ne HM5.out t1)
            have HG7 := hide (grown_trans HG6.out hG7)
            have HLE := hide (cntF_le (m.erase (P1, P2)) (P1, P2))
            have hel : (m.erase (P1, P2)).length ≤ 1000 := by have := List.length_erase_le (a := (P1, P2)) (l := m); omega
            have HLE := hide (Nat.le_trans HLE.out hel)
            have HCAST : Hid (((cntF (m.erase (P1, P2)) (P1, P2) + 1 : Nat) : Int) = ((cntF (m.erase (P1, P2)) (P1, P2) : Nat) : Int) + 1) := hide rfl
            have hrle := rwN_le k (m.erase (P1, P2)) i
            have hsle := sumTo_le (fun x => if pr v x ∈ m then rwN k (m.erase (pr v x)) x else 0) (10 ^ k) (fun x => by split; exact rwN_le _ _ _; exact Nat.zero_le _) i
            have hpw := pow_bound k (by have := HK.out; omega)
            have hsl2 : sumTo (fun x => if pr v x ∈ m then rwN k (m.erase (pr v x)) x else 0) i ≤ 100000000 := Nat.le_trans hsle (Nat.le_trans (Nat.mul_le_mul (show i ≤ 10 by omega) hpw) (by omega))
            have hrl2 : rwN k (m.erase (P1, P2)) i ≤ 10000000 := Nat.le_trans hrle hpw
            have HSUM : Hid (sumTo (fun x => if pr v x ∈ m then rwN k (m.erase (pr v x)) x else 0) (i + 1) = sumTo (fun x => if pr v x ∈ m then rwN k (m.erase (pr v x)) x else 0) i + rwN k (m.erase (P1, P2)) i) := hide (by
              show _ + (if pr v i ∈ m then rwN k (m.erase (pr v i)) i else 0) = _
              rw [HPR.out, if_pos HIN.out])
            generalize hSM : sumTo (fun x => if pr v x ∈ m then rwN k (m.erase (pr v x)) x else 0) i = SM at *
            generalize hRW : rwN k (m.erase (P1, P2)) i = RW at *
            clear hrle hsle hpw hSM hRW hG7 hel
            go_wp2_with fail
            refine wp_region_held (S := fun W => w7.grownBy W (some mb)) (by kernel_rfl) ?_
            change wpAnyH _ _ _ _ _ _ _ _ (World.drew _)
            have SW : w7.grownBy w7.drew (some mb) := grown_drew _ _
            have M1 : Mp w7.drew mb (cntF (m.erase (P1, P2))) := M7.of_block rfl
            have HL0 : Hid (∀ W, w7.grownBy W (some mb) → W.cell? ⟨lb, 0, none⟩ = some (.map (some mb))) := hide (fun W hW => hW.cell l7 (map_ne M7 l7))
            have HE0 : Hid (∀ W, w7.grownBy W (some mb) → W.cell? ⟨wp, 0, none⟩ = some (.int .i64 P1)) := hide (fun W hW => hW.cell u0 (map_ne M7 u0))
            have HE1 : Hid (∀ W, w7.grownBy W (some mb) → W.cell? ⟨wp, 1, none⟩ = some (.int .i64 P2)) := hide (fun W hW => hW.cell u1 (map_ne M7 u1))
            refine wpAnyH_take (i := 0) (v := .map (some mb)) rfl (by kernel_rfl) (by kernel_rfl) (by kernel_rfl) (fun _ _ _ h => h) (Or.inl ⟨by rfl, ?_⟩) SW ?_
            · intro W hW
              have f0 := HL0.out W hW
              go_simp
            go_simp
            refine wpAnyH_take (i := 1) (v := .agg #[.int .i64 P1, .int .i64 P2]) rfl (by kernel_rfl) (by kernel_rfl) (by kernel_rfl) (fun _ _ _ h => h) (Or.inl ⟨by rfl, ?_⟩) SW ?_
            · intro W hW
              have f0 := HE0.out W hW
              have f1 := HE1.out W hW
              go_simp
            go_simp
            clear HL0 HE0 HE1
            refine wpAnyH_ready (rs := [2, 4]) (by kernel_rfl) (by simp) ?_
            refine AllReadyH.cons rfl (fun K1 hK1 => ?_) (AllReadyH.cons rfl (fun K1 hK1 => ?_) AllReadyH.nil)
            · have hL := M1.look (P1, P2)
              rw [show pv (P1, P2) = Value.agg #[.int .i64 P1, .int .i64 P2] from rfl] at hL
              go_simp
              refine hK1.out _ _ SW (fun SW => ?_)
              clear hK1 K1 hL
              refine wpAnyH_take (i := 3) (v := .int .i64 (((cntF (m.erase (P1, P2)) (P1, P2) : Nat) : Int) + 1)) rfl (by kernel_rfl) (by kernel_rfl) (by kernel_rfl) (fun _ _ _ h => h) (Or.inl ⟨by rfl, ?_⟩) SW ?_
              · intro W hW
                go_simp
                rw [IntKind.wrap_i64]
                have := HLE.out
                omega
              go_simp
              refine wpAnyH_ready (rs := [4]) (by kernel_rfl) (by simp) ?_
              refine AllReadyH.cons rfl (fun K1 hK1 => ?_) AllReadyH.nil
              obtain ⟨v0, st, w5, hE, M3, hAt, hG5, -⟩ := M1.entry (P1, P2)
              rw [show pv (P1, P2) = Value.agg #[.int .i64 P1, .int .i64 P2] from rfl] at hE
              go_simp
              refine hK1.out _ _ (grown_trans SW hG5) (fun SW => ?_)
              clear hK1 K1 hE
              refine wpAnyH_take (i := 5) (v := .int .i64 ((st : Nat) : Int)) rfl (by kernel_rfl) (by kernel_rfl) (by kernel_rfl) (fun _ _ _ h => h) (Or.inl ⟨by rfl, ?_⟩) SW ?_
              · intro W hW
                go_simp
              go_simp
              refine wpAnyH_ready (rs := [6]) (by kernel_rfl) (by simp) ?_
              refine AllReadyH.cons rfl (fun K1 hK1 => ?_) AllReadyH.nil
              obtain ⟨w6, hS, M4, hG6⟩ := M3.store hAt (cntF (m.erase (P1, P2)) (P1, P2) + 1)
              rw [HCAST.out] at hS
              go_simp
              refine hK1.out _ _ (grown_trans SW hG6) (fun SW => ?_)
              clear hK1 K1 hS
              refine wpAnyH_done (by kernel_rfl) ?_ _
              clear M3 hAt hG5 hG6 M1
              have HM6 : Hid (Mp w6 mb (cntF m)) := hide (by rw [← cntF_back m (P1, P2) HIN.out]; exact M4)
              have HG6 := hide (grown_trans HG7.out SW)
              clear SW M4
              go_wp2_with fail
              go_roundw
              case rel => exact ⟨i + 1, by omega, by go_num, hide (by rw [HSUM.out]; go_num), HM6, HG6⟩
              case measure => simp [intOf]; omega
            · obtain ⟨v0, st, w5, hE, M3, hAt, hG5, -⟩ := M1.entry (P1, P2)
              rw [show pv (P1, P2) = Value.agg #[.int .i64 P1, .int .i64 P2] from rfl] at hE
              go_simp
              refine hK1.out _ _ (grown_trans SW hG5) (fun SW => ?_)
              clear hK1 K1 hE
              refine wpAnyH_take (i := 5) (v := .int .i64 ((st : Nat) : Int)) rfl (by kernel_rfl) (by kernel_rfl) (by kernel_rfl) (fun _ _ _ h => h) (Or.inl ⟨by rfl, ?_⟩) SW ?_
              · intro W hW
                go_simp
              go_simp
              refine wpAnyH_ready (rs := [2]) (by kernel_rfl) (by simp) ?_
              refine AllReadyH.cons rfl (fun K1 hK1 => ?_) AllReadyH.nil
              have hL := M3.look (P1, P2)
              rw [show pv (P1, P2) = Value.agg #[.int .i64 P1, .int .i64 P2] from rfl] at hL
              go_simp
              refine hK1.out _ _ SW (fun SW => ?_)
              clear hK1 K1 hL
              refine wpAnyH_take (i := 3) (v := .int .i64 (((cntF (m.erase (P1, P2)) (P1, P2) : Nat) : Int) + 1)) rfl (by kernel_rfl) (by kernel_rfl) (by kernel_rfl) (fun _ _ _ h => h) (Or.inl ⟨by rfl, ?_⟩) SW ?_
              · intro W hW
                go_simp
                rw [IntKind.wrap_i64]
                have := HLE.out
                omega
              go_simp
              refine wpAnyH_ready (rs := [6]) (by kernel_rfl) (by simp) ?_
              refine AllReadyH.cons rfl (fun K1 hK1 => ?_) AllReadyH.nil
              obtain ⟨w6, hS, M4, hG6⟩ := M3.store hAt (cntF (m.erase (P1, P2)) (P1, P2) + 1)
              rw [HCAST.out] at hS
              go_simp
              refine hK1.out _ _ (grown_trans SW hG6) (fun SW => ?_)
              clear hK1 K1 hS
              refine wpAnyH_done (by kernel_rfl) ?_ _
              clear M3 hAt hG5 hG6 M1
              have HM6 : Hid (Mp w6 mb (cntF m)) := hide (by rw [← cntF_back m (P1, P2) HIN.out]; exact M4)
              have HG6 := hide (grown_trans HG7.out SW)
              clear SW M4
              go_wp2_with fail
              go_roundw
              case rel => exact ⟨i + 1, by omega, by go_num, hide (by rw [HSUM.out]; go_num), HM6, HG6⟩
              case measure => simp [intOf]; omega
        · have hz : ((cntF m (P1, P2) : Nat) : Int) = 0 := by
            have : ¬ 0 < cntF m (P1, P2) := fun h => hin ((cntF_pos m (P1, P2)).1 h)
            omega
          rw [hz] at hL4
          have HSUM : Hid (sumTo (fun x => if pr v x ∈ m then rwN k (m.erase (pr v x)) x else 0) (i + 1) = sumTo (fun x => if pr v x ∈ m then rwN k (m.erase (pr v x)) x else 0) i) := hide (by
            show _ + (if pr v i ∈ m then rwN k (m.erase (pr v i)) i else 0) = _
            rw [HPR.out, if_neg hin]; rfl)
          have HM4 := hide M3'
          clear hin hz
          go_wp2_with fail
          clear hL4
          go_roundw
          case rel => exact ⟨i + 1, by omega, by go_num, hide (by rw [HSUM.out]), HM4, HG4⟩
          case measure => simp [intOf]; omega
      · obtain rfl : i = 10 := by omega
        go_wp2_with fail
        go_ret
        exact ⟨ret_intN (by rw [HRW.out]), HMr.out, HGr.out⟩

end Go.Proofs.Ytjcglpnpdalcjaa
