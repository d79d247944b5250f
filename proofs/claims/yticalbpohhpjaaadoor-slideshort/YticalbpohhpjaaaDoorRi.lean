/-
  Rings around a tray. No conditions beyond those that each theorem bears.
-/
import Derived.Test.YticalbpohhpjaaaDoorNw
import Derived.Deep.LoopGhost
namespace Go.Proofs.YticalbpohhpjaaaDoor
open Go.RowKit

/-- The map and the ring so many moves away from home. -/
def rgs (W H N : Nat) : Nat → List (List Int × Int) × List (List Int × Nat)
  | 0 => ([(pad6 (homeL N), -1)], [(homeL N, N - 1)])
  | k + 1 => nxt W H (rgs W H N k).1 (rgs W H N k).2

theorem home_gt {N : Nat} (hN : 0 < N) : Gt N (homeL N, N - 1) := by
  refine ⟨isOrd_of_all _ fun i hi => ?_, homeL_length N, ix_homeGap hN⟩
  rw [homeL_length] at hi
  by_cases h : i = 0
  · subst h
    have := homeL_at N (N - 1) (by omega)
    rw [show N - 1 + 1 = N by omega, Nat.mod_self] at this
    rw [← this]
    exact getD_mem (by rw [homeL_length]; omega)
  · have := homeL_at N (i - 1) (by omega)
    rw [show i - 1 + 1 = i by omega, Nat.mod_eq_of_lt hi] at this
    rw [← this]
    exact getD_mem (by rw [homeL_length]; omega)

theorem rgs_good {W H N : Nat} (hW : 2 ≤ W) (hN : W * H = N) (h0 : 0 < N) : ∀ k, ∀ x ∈ (rgs W H N k).2, Gt N x
  | 0 => fun x hx => by rw [List.mem_singleton.1 hx]; exact home_gt h0
  | k + 1 => fun x hx => nxk_good hW hN (rgs_good hW hN h0 k) _ (Nat.le_refl _) x hx

theorem lk_nil (s : List Int) : lk [] s = none := rfl

/-- A block of one number. -/
def One (w : World) (i : Nat) : Prop := ∃ x, w.heap[i]? = some (.cells #[x] 3 (0, 0))

theorem Bw.notOne {w : World} {cb N c : Nat} {Z : List Int} (h : Bw w cb N c Z) (hN : 2 ≤ N) {i : Nat} (ho : One w i) : cb ≠ i := by
  rintro rfl
  obtain ⟨x, hx⟩ := ho
  rcases h.2 with ⟨hv, _⟩ | ⟨g, cap, cur, hv, -, hg, hcap, -, hsz, -⟩
  · simp at hv
  · simp only [Value.slice.injEq, Option.some.injEq, Addr.mk.injEq] at hv
    obtain ⟨⟨rfl, -⟩, -, rfl⟩ := hv
    rw [hx] at hg
    simp only [Option.some.injEq, Obj.cells.injEq] at hg
    rw [← hg.1] at hsz
    simp at hsz
    omega

theorem Bw.pass {F : Nat → Prop} {w w' : World} {cb N c : Nat} {Z : List Int} (h : Bw w cb N c Z) (hN : 2 ≤ N) (ho : ∀ i, F i → One w i) (hk : Keeps (fun i => F i ∨ w.heap.size ≤ i) w w') : Bw w' cb N c Z :=
  h.keeps hk (by rintro (e | e); exact h.notOne hN (ho _ e) rfl; have := h.lt; omega)

theorem Tvs.pass {F : Nat → Prop} {base : Nat} {w w' : World} {W H N : Nat} {v : Value} {L : List (List Int × Nat)} (h : Tvs base w W H N v L) (hN : 2 ≤ N) (ho : ∀ i, F i → One w i) (hk : Keeps (fun i => F i ∨ w.heap.size ≤ i) w w') : Tvs base w' W H N v L := by
  obtain ⟨vs, h1, h2, h3⟩ := h
  refine ⟨vs, own_blk h1 (fun g hg => hk.block g (h1.lt g hg).2 ?_), h2.imp (fun g c P hR => hR.pass hN ho hk), h3⟩
  have hlt := (h1.lt g hg).2
  rintro (e | e)
  · obtain ⟨x, hx⟩ := ho _ e
    rcases h1.2 with ⟨hv, _⟩ | ⟨g', cap, cur, hv, -, hg', -⟩
    · rw [hv] at hg; cases hg
    · rw [hv] at hg
      simp only [Value.ownBlock, Option.some.injEq] at hg
      subst hg
      rw [hx] at hg'
      simp at hg'
  · omega

theorem Mz.pass {F : Nat → Prop} {w w' : World} {mb : Nat} {A : List (List Int × Int)} (h : Mz w mb A) (ho : ∀ i, F i → One w i) (hk : Keeps (fun i => F i ∨ w.heap.size ≤ i) w w') : Mz w' mb A := by
  refine h.keeps hk ?_
  rintro (e | e)
  · obtain ⟨x, hx⟩ := ho _ e
    obtain ⟨es, clock, hb, _⟩ := h
    rw [hx] at hb
    cases hb
  · have := h.lt; omega

theorem Tab.pass {F : Nat → Prop} {w w' : World} (h : Tab w) (ho : ∀ i, F i → One w i) (hk : Keeps (fun i => F i ∨ w.heap.size ≤ i) w w') : Tab w' := by
  refine h.keeps hk ?_
  rintro (e | e)
  · obtain ⟨x, hx⟩ := ho _ e
    have := h 1 (by omega)
    simp [World.cell?, hx] at this
  · have := h.lt; omega

theorem Tab.ofMap {w w' : World} {mb : Nat} {A : List (List Int × Int)} (h : Tab w) (hM : Mz w mb A) (hk : Keeps (fun i => i = mb) w w') : Tab w' := by
  refine h.keeps hk ?_
  rintro rfl
  obtain ⟨es, clock, hb, _⟩ := hM
  have := h 0 (by omega)
  simp [World.cell?, hb] at this

theorem one_notMap {w : World} {mb i : Nat} {A : List (List Int × Int)} (hM : Mz w mb A) (h : One w i) : i ≠ mb := by
  rintro rfl
  obtain ⟨es, clock, hb, _⟩ := hM
  obtain ⟨x, hx⟩ := h
  rw [hx] at hb
  cases hb

/-- What holds of the closure's state at the end. -/
def endI (W H N : Nat) (Inv : Nat → World → Prop) (K : Nat) (w : World) : Prop := if (rgs W H N K).2 = [] then Inv K w else Inv (K + 1) w

set_option maxRecDepth 100000 in
set_option maxHeartbeats 16000000 in
theorem rings_any (W H N cb c f K : Nat) (lb : Array Value) (G : Nat → Bool) (Inv : Nat → World → Prop) (F : Nat → Prop) (w : World) (hT : Tab w) (hB : Bw w cb N c (homeL N)) (hu : 2 ≤ W ∧ W ≤ 5) (hh : 2 ≤ H ∧ H ≤ 5) (hN : W * H = N) (hN6 : N ≤ 6) (hI : Inv 0 w)
    (hone : ∀ k W1, Inv k W1 → ∀ i, F i → One W1 i) (hlow : ∀ i, F i → i < w.heap.size)
    (hnew : ∀ k W1 W2, Inv k W1 → Below W1.heap.size W1 W2 → Inv k W2)
    (hmap : ∀ k W1 W2 mb A, Inv k W1 → Mz W1 mb A → Keeps (fun i => i = mb) W1 W2 → Inv k W2)
    (hgo : ∀ k, k < K → (rgs W H N k).2 ≠ [] ∧ G k = true) (hstop : (rgs W H N K).2 = [] ∨ G K = false) (hl : ∀ k, k ≤ K → (rgs W H N k).2.length ≤ 1000) (en : ∀ args w, (callFunc f args).run Tryd.prog w = .ok (.enter f args) w)
    (hclos : ∀ k W1 v, k ≤ K → (rgs W H N k).2 ≠ [] → Inv k W1 → Tvs 0 W1 W H N v (rgs W H N k).2 → Calls Tryd.prog f (#[v] ++ lb) W1 fun e W2 => e = .returned (.bool (G k)) ∧ Inv (k + 1) W2 ∧ Keeps (fun i => F i ∨ W1.heap.size ≤ i) W1 W2) :
    Calls Tryd.prog 40 #[.agg (trA W H (some ⟨cb, 0, none⟩) N c ((N - 1 : Nat) : Int)), .func (.func f) #[] lb] w fun e w' => ∃ mb, e = .returned (.map (some mb)) ∧ Mz w' mb (rgs W H N K).1 ∧ endI W H N Inv K w' ∧ Keeps (fun i => F i ∨ w.heap.size ≤ i) w w' := by
  have hb4 := len_bd hu hh hN
  have HI := hide hI
  have HT := hide hT
  have HB := hide hB
  have HKZ := hide ((home_gt (N := N) (by omega)).kz hN6)
  dsimp only at HKZ
  clear hI hT hB
  go_enter Tryd.func40, Tryd.ntmps40
  go_upto_region 1 with fail
  obtain ⟨w1, hw1⟩ : ∃ w1, w.alloc (Obj.cells (trA W H (some ⟨cb, 0, none⟩) N c ((N - 1 : Nat) : Int)) 55) = w1 := ⟨_, rfl⟩
  rw [hw1]
  have b1 : Below w.heap.size w w1 := by rw [← hw1]; exact (Below.refl _ w).alloc (Nat.le_refl _) _
  have T1 : Ty w1 w.heap.size W H (some ⟨cb, 0, none⟩) N c ((N - 1 : Nat) : Int) := by rw [← hw1]; exact Ty.new _ _ _ _ _ _ _
  clear hw1
  obtain ⟨w2, hw2⟩ : ∃ w2, w1.alloc (.map #[] 0) = w2 := ⟨_, rfl⟩
  have b2 : Below w1.heap.size w1 w2 := by rw [← hw2]; exact (Below.refl _ w1).alloc (Nat.le_refl _) _
  have M2 : Mz w2 w1.heap.size [] := by rw [← hw2]; exact Mz.made w1
  have T2 := T1.below b2 T1.lt
  have B2 := HB.out.mono (b1.trans (b2.mono b1.size))
  have hl1 := T1.lt
  have HB2 := hide B2
  have HBW2 := hide (b1.trans (b2.mono b1.size))
  have MM : (Instr.makeMap 65 none).run Tryd.prog w1 = .ok (.map (some w1.heap.size)) w2 := by rw [← hw2]; rfl
  have hmw : w.heap.size < w1.heap.size := T1.lt
  generalize hmb : w1.heap.size = mb at *
  clear hw2
  go_wp2_with (first
    | refine wpList_load_ty rfl (.tmp 2) rfl w.heap.size rfl T2 ?_)
  refine (stones_any W H N c cb 0 ((N - 1 : Nat) : Int) (homeL N) w2 (by omega) HB2.out.rd).mono ?_
  rintro e w3 ⟨rfl, b3⟩
  have M3 := M2.below b3 M2.lt
  have T3 := T2.below b3 T2.lt
  have HB3 := hide (HB2.out.mono b3)
  have HW3 := hide (HBW2.out.trans (b3.mono HBW2.out.size))
  have hkz := HKZ.out
  clear MM M2 T2 T1 b1 b2 b3 HB2 HBW2 hl1 B2
  go_upto_region 2 with (refine wpList_update_mz rfl (.tmp 7) (.tmp 9) (.const (.int .i64 (-1))) (.inr rfl) M3 hkz rfl rfl rfl rfl ?_; intro w4 hm4 hk4)
  have T4 := T3.keeps hk4 (by omega)
  have HB4 := hide (HB3.out.ofMap M3 hk4)
  have HI4 := hide (hmap 0 w3 w4 mb [] (hnew 0 w w3 HI.out HW3.out) M3 hk4)
  have HK4 : Hid (Keeps (fun i => F i ∨ w.heap.size ≤ i) w w4) := hide (((Keeps.of_all HW3.out).trans (hk4.mono (fun i _ e => .inr (by omega)))).mono (fun i _ h => h))
  have HT4 := hide ((HT.out.mono HW3.out).ofMap M3 hk4)
  have HM4 := hide hm4
  clear M3 T3 HB3 HW3 hm4 hk4
  have hW := hide (hone)
  have HNEWI := hide hnew
  have HMAPI := hide hmap
  have HGO := hide hgo
  have HST := hide hstop
  have HLN := hide hl
  have HCL := hide hclos
  have HLOW := hide hlow
  have b5 : Below w4.heap.size w4 (w4.alloc (.cells (trA W H (some ⟨cb, 0, none⟩) N c ((N - 1 : Nat) : Int)) 55)) := (Below.refl _ w4).alloc (Nat.le_refl _) _
  have HV5 := hide (Tvs.lit (base := 0) (W := W) (H := H) (q := N - 1) HB4.out (Nat.zero_le _))
  have HM5 := hide (HM4.out.below b5 HM4.out.lt)
  have HI5 := hide (hnew 0 _ _ HI4.out b5)
  have HT5 := hide (HT4.out.mono b5)
  have HK5 := hide (HK4.out.trans (Keeps.of_all b5))
  clear hone hnew hmap hgo hstop hl hclos hlow b5 HM4 HI4 HT4 HK4
  go_wp2_with (first
    | refine wpList_load_ty rfl (.tmp 2) rfl w.heap.size rfl T4 ?_)
  clear T4
  go_loopg [6] (K + 1) (fun gk v wr => ∃ (k c6 : Nat) (a6 : Option Addr), k ≤ K ∧ gk = K + 1 - k ∧ v = .slice a6 (rgs W H N k).2.length c6 ∧ Hid (Tvs 0 wr W H N (.slice a6 (rgs W H N k).2.length c6) (rgs W H N k).2) ∧ Hid (Mz wr mb (rgs W H N k).1) ∧ Hid (Inv k wr) ∧ Hid (Tab wr) ∧ Hid (Keeps (fun i => F i ∨ w.heap.size ≤ i) w wr))
  case atStart => exact ⟨0, 1, _, by omega, rfl, rfl, HV5, HM5, HI5, HT5, HK5⟩
  case round =>
    clear HV5 HM5 HI5 HT5 HK5 HB4
    obtain ⟨k, c6, a6, hk, rfl, rfl, HV, HM, HI, HT, HK⟩ := hrel
    by_cases hR : (rgs W H N k).2 = []
    · have hkK : k = K := by
        rcases Nat.lt_or_ge k K with h | h
        · exact absurd hR (HGO.out k h).1
        · omega
      subst hkK
      have HR := hide hR
      have HMM := hide HM.out
      have HII : Hid (endI W H N Inv k wr) := hide (by unfold endI; rw [if_pos hR]; exact HI.out)
      have hl0 : (rgs W H N k).2.length = 0 := by rw [hR]; rfl
      generalize (rgs W H N k).2.length = ln at *
      subst hl0
      clear hR
      go_wp2_with fail
      go_ret
      exact ⟨mb, rfl, HMM.out, HII.out, HK.out⟩
    have hlp : 0 < (rgs W H N k).2.length := List.length_pos_iff.2 hR
    have hlb := HLN.out k hk
    have HC := hide (HCL.out k wr _ hk hR HI.out HV.out)
    have HNE := hide hR
    have hlt' : (0 : Int) < (((rgs W H N k).2.length : Nat) : Int) := by omega
    have HRG : Hid (∀ t ∈ (rgs W H N k).2, Gt N t) := hide (rgs_good hu.1 hN (by omega) k)
    have HNX : Hid (nxt W H (rgs W H N k).1 (rgs W H N k).2 = rgs W H N (k + 1)) := hide rfl
    cases hG : G k with
    | false =>
      have hkK : k = K := by
        rcases Nat.lt_or_ge k K with h | h
        · have := (HGO.out k h).2; rw [hG] at this; cases this
        · omega
      subst hkK
      rw [hG] at HC
      clear hG
      go_wp2_with fail
      refine HC.out.mono ?_
      rintro e w6 ⟨rfl, hi6, hk6⟩
      have HM6 := hide (HM.out.pass (hW.out k wr HI.out) hk6)
      have HII : Hid (endI W H N Inv k w6) := hide (by unfold endI; rw [if_neg HNE.out]; exact hi6)
      have HK6 := hide (HK.out.trans (hk6.mono (fun i hi h => by rcases h with h | h; exact .inl h; exact .inr (by have := HK.out.size; omega))))
      clear hi6 hk6 HC
      go_wp2_with fail
      go_ret
      exact ⟨mb, rfl, HM6.out, HII.out, HK6.out⟩
    | true =>
      have hkK : k < K := by
        rcases Nat.lt_or_ge k K with h | h
        · exact h
        · have hkK : k = K := by omega
          subst hkK
          rcases HST.out with h | h
          · exact absurd h HNE.out
          · rw [hG] at h; cases h
      rw [hG] at HC
      clear hG
      go_wp2_with fail
      refine HC.out.mono ?_
      rintro e w6 ⟨rfl, hi6, hk6⟩
      have ho := hW.out k wr HI.out
      have HM6 := hide (HM.out.pass ho hk6)
      have HV6 := hide (HV.out.pass (by omega) ho hk6)
      have HT6 := hide (HT.out.pass ho hk6)
      have HI6 := hide hi6
      have HK6 := hide (HK.out.trans (hk6.mono (fun i hi h => by rcases h with h | h; exact .inl h; exact .inr (by have := HK.out.size; omega))))
      clear hi6 hk6 HC ho HV HM HI HT HK
      go_wp2_with fail
      refine (next_any W H N mb _ (rgs W H N k).1 (rgs W H N k).2 w6 HT6.out HV6.out HM6.out hu hh hN hN6 HRG.out (by omega)).mono ?_
      rintro e w7 ⟨v7, rfl, hv7, hm7, hk7⟩
      rw [HNX.out] at hv7 hm7
      obtain ⟨a7, c7, rfl, -, -, -⟩ := hv7.form
      have hmbw : mb < w6.heap.size := HM6.out.lt
      have HV7 := hide (hv7.base (Nat.zero_le _))
      have HM7 := hide hm7
      have HT7 := hide (HT6.out.ofMap HM6.out hk7)
      have HI7 := hide (HMAPI.out (k + 1) w6 w7 mb _ HI6.out HM6.out hk7)
      have HK7 := hide (HK6.out.trans (hk7.mono (fun i hi h => .inr (by omega))))
      clear hv7 hm7 hk7 HV6 HM6 HT6 HI6 HK6
      go_wp2_with fail
      go_roundg (K + 1 - (k + 1))
      case measure => omega
      case rel => exact ⟨k + 1, c7, a7, by omega, by omega, rfl, HV7, HM7, HI7, HT7, HK7⟩


end Go.Proofs.YticalbpohhpjaaaDoor
