/-
  What bridge.Best answers for hands that may be. No conditions beyond those that each theorem bears.
-/
import Derived.Test.YtiihnlpoagnkhaaDoorBp
import Derived.Test.YtiihnlpoagnkhaaDoorCat
namespace Go.Proofs.YtiihnlpoagnkhaaDoor
open Go.RowKit Go.Lib

set_option maxHeartbeats 400000 in
theorem isStrain_any (s : Nat) (hs : s < 5) (w : World) : Calls Tryd.prog 14 #[.int .i64 s] w fun e w' => e = .returned (.bool true) ∧ w' = w := by
  have h1 : (s : Int) < 5 := by omega
  go_enter Tryd.func14, Tryd.ntmps14
  go_wp2
  go_ret
  exact ⟨rfl, rfl⟩

/-- A hand, as a value. -/
structure Hv where
  a : Option Addr
  n : Nat
  c : Nat
instance : Inhabited Hv := ⟨⟨none, 0, 0⟩⟩
def encH (h : Hv) : Value := .slice h.a h.n h.c

set_option maxHeartbeats 400000 in
theorem other_call (B n : Nat) (x : Hv) (hx : x.n = n) (W : World) (hc : W.cell? ⟨B, 0, none⟩ = some (.int .i64 (n : Int))) :
    Calls Tryd.prog 23 #[encH x, .pointer (some ⟨B, 0, none⟩)] W fun e w' => e = .returned (.bool false) ∧ w' = W := by
  unfold encH
  rw [hx]
  go_enter Tryd.func23, Tryd.ntmps23
  go_wp2
  go_ret
  refine ⟨ret_b ?_, rfl⟩
  simp

set_option maxHeartbeats 400000 in
theorem other_call2 (B n : Nat) (x : Hv) (W : World) (hc : W.cell? ⟨B, 0, none⟩ = some (.int .i64 (n : Int))) :
    Calls Tryd.prog 23 #[encH x, .pointer (some ⟨B, 0, none⟩)] W fun e w' => e = .returned (.bool (decide (x.n ≠ n))) ∧ w' = W := by
  by_cases h : x.n = n
  · rw [show decide (x.n ≠ n) = false by simp [h]]
    exact other_call B n x h W hc
  · rw [show decide (x.n ≠ n) = true by simp [h]]
    unfold encH
    obtain ⟨a, k, c⟩ := x
    simp only at h ⊢
    have hb : ((k : Int) != (n : Int)) = true := by simp; omega
    have hb2 : ((k : Int) == (n : Int)) = false := by simp; omega
    go_enter Tryd.func23, Tryd.ntmps23
    go_wp2
    go_ret
    exact ⟨ret_b (by simp), rfl⟩

theorem other_gives (B n : Nat) (x : Hv) (W : World) (hc : W.cell? ⟨B, 0, none⟩ = some (.int .i64 (n : Int))) : FnGives Tryd.prog 23 #[.pointer (some ⟨B, 0, none⟩)] #[encH x] (.bool (decide (x.n ≠ n))) W := by
  show Calls Tryd.prog 23 #[encH x, .pointer (some ⟨B, 0, none⟩)] W _
  exact (other_call2 B n x W hc).mono fun _ _ ⟨he, hw⟩ => ⟨he, 0, hw⟩

set_option maxRecDepth 100000 in
set_option maxHeartbeats 2000000 in
theorem areHands_ok (b c n : Nat) (Z : Nat → List Nat) (hn1 : 1 ≤ n) (hn : n ≤ 4) (w : World) (h : HS w b n Z) :
    Calls Tryd.prog 11 #[.slice (some ⟨b, 0, none⟩) 4 c] w fun e w' => e = .returned (.bool true) ∧ Below w.heap.size w w' := by
  obtain ⟨a0, k0, h0, -⟩ := h.cell 0 (by omega)
  obtain ⟨a1, k1, h1, -⟩ := h.cell 1 (by omega)
  obtain ⟨a2, k2, h2, -⟩ := h.cell 2 (by omega)
  obtain ⟨a3, k3, h3, -⟩ := h.cell 3 (by omega)
  have hbs : b < w.heap.size := World.block_lt_of_cell? w _ h0
  have hl1 : ¬ (n : Int) < 1 := by omega
  have hl2 : (n : Int) ≤ 4 := by omega
  have hl3 : (1 : Int) ≤ (n : Int) := by omega
  have CF := hide (fun (W : World) (hB : Below w.heap.size w W) (hc : W.cell? ⟨w.heap.size, 0, none⟩ = some (.int .i64 (n : Int))) (hlt : w.heap.size < W.heap.size) =>
    Tryd.slices_ContainsFunc encH (fun x => decide (x.n ≠ n)) 23 #[.pointer (some ⟨w.heap.size, 0, none⟩)] (enters_of Tryd.func23 (by kernel_rfl) rfl) b 0 4 c [⟨a0, n, k0⟩, ⟨a1, n, k1⟩, ⟨a2, n, k2⟩, ⟨a3, n, k3⟩] W
      (fun W2 x hb => other_gives w.heap.size n x W2 ((hb.cell (p := ⟨w.heap.size, 0, none⟩) hlt).trans hc)) (by simp) (by omega) (fun j hj => by
        rw [Nat.zero_add]
        have hj4 : j < 4 := by simpa using hj
        rcases (show j = 0 ∨ j = 1 ∨ j = 2 ∨ j = 3 by omega) with rfl | rfl | rfl | rfl
        · exact (hB.cell (p := ⟨b, 0, none⟩) hbs).trans h0
        · exact (hB.cell (p := ⟨b, 1, none⟩) hbs).trans h1
        · exact (hB.cell (p := ⟨b, 2, none⟩) hbs).trans h2
        · exact (hB.cell (p := ⟨b, 3, none⟩) hbs).trans h3))
  clear h1 h2 h3 h
  go_enter Tryd.func11, Tryd.ntmps11
  go_wp2_with fail
  refine (CF.out _ ((Below.refl _ w).alloc (Nat.le_refl _) _) (by go_simp) (by simp)).mono ?_
  rintro e w1 ⟨rfl, q, rfl⟩
  have hany : List.any (List.take 4 [(⟨a0, n, k0⟩ : Hv), ⟨a1, n, k1⟩, ⟨a2, n, k2⟩, ⟨a3, n, k3⟩]) (fun x => decide (x.n ≠ n)) = false := by simp
  rw [hany]
  go_wp2
  go_ret
  exact ⟨rfl, ((Below.refl _ w).alloc (Nat.le_refl _) _).trans (drewN_below _ _ _)⟩

theorem cat_inRange (Z : Nat → List Nat) (U : Un Z) : mayE (cat (fun i => toI (Z i)) 4) = 0 := by
  have e : cat (fun i => toI (Z i)) 4 = toI (Z 0 ++ (Z 1 ++ (Z 2 ++ Z 3))) := by
    simp [cat, toI]
  rw [e]
  have hmem : ∀ x ∈ Z 0 ++ (Z 1 ++ (Z 2 ++ Z 3)), x < 52 := by
    intro x hx
    simp only [List.mem_append] at hx
    rcases hx with hx | hx | hx | hx
    · exact U.lt 0 (by omega) x hx
    · exact U.lt 1 (by omega) x hx
    · exact U.lt 2 (by omega) x hx
    · exact U.lt 3 (by omega) x hx
  have hnd : (Z 0 ++ (Z 1 ++ (Z 2 ++ Z 3))).Nodup := by
    refine List.nodup_append.2 ⟨U.dup 0 (by omega), List.nodup_append.2 ⟨U.dup 1 (by omega), List.nodup_append.2 ⟨U.dup 2 (by omega), U.dup 3 (by omega), ?_⟩, ?_⟩, ?_⟩
    · intro x hx y hy e; subst e; exact U.one 2 3 (by omega) (by omega) (by omega) x hx hy
    · intro x hx y hy e
      subst e
      rcases List.mem_append.1 hy with hy | hy
      · exact U.one 1 2 (by omega) (by omega) (by omega) x hx hy
      · exact U.one 1 3 (by omega) (by omega) (by omega) x hx hy
    · intro x hx y hy e
      subst e
      rcases List.mem_append.1 hy with hy | hy
      · exact U.one 0 1 (by omega) (by omega) (by omega) x hx hy
      rcases List.mem_append.1 hy with hy | hy
      · exact U.one 0 2 (by omega) (by omega) (by omega) x hx hy
      · exact U.one 0 3 (by omega) (by omega) (by omega) x hx hy
  have hr : inRange (toI (Z 0 ++ (Z 1 ++ (Z 2 ++ Z 3)))) = true := by
    simp only [inRange, List.all_eq_true, decide_eq_true_eq, toI, List.mem_map]
    rintro z ⟨x, hx, rfl⟩
    have := hmem x hx
    omega
  have hn : (toI (Z 0 ++ (Z 1 ++ (Z 2 ++ Z 3)))).Nodup := by
    unfold toI
    rw [List.nodup_iff_pairwise_ne] at hnd ⊢
    rw [List.pairwise_map]
    exact hnd.imp (fun h e => h (by omega))
  rw [mayE, if_pos hr, if_pos hn]

set_option maxRecDepth 100000 in
set_option maxHeartbeats 2000000 in
theorem Best_ok (b c n : Nat) (Z : Nat → List Nat) (U : Un Z) (hn1 : 1 ≤ n) (hn : n ≤ 4) (s : Nat) (hs : s < 5) (ld : Nat) (hld : ld < 4) (hZ : ∀ i, i < 4 → (Z i).length = n) (hc4 : 4 ≤ c) (hcm : c ≤ 9223372036854775807) (w : World) (hT : Tab w) (h : HS w b n Z) :
    Calls Tryd.prog 5 #[.slice (some ⟨b, 0, none⟩) 4 c, .int .i64 s, .int .i64 ld] w fun e w' => ∃ m hold, Mk m hold ∧ (∀ p, p < 4 → (Z p).Perm (HF m hold p)) ∧ e = .returned (.tuple #[.int .i64 (TrV m hold s ld n : Nat), .int .i64 0]) ∧ Below w.heap.size w w' := by
  have h0s : 0 < w.heap.size := World.block_lt_of_cell? w _ (hT 0 (by omega))
  have AH := hide (areHands_ok b c n Z hn1 hn w h)
  have CC : Hid (∀ W, Below w.heap.size w W → Calls Tryd.prog 13 #[.slice (some ⟨b, 0, none⟩) 4 c] W fun e w' => ∃ a' c', e = .returned (.slice a' (n + n + n + n) c') ∧ Rd w' a' (n + n + n + n) c' (cat (fun i => toI (Z i)) 4) ∧ Below W.heap.size W w') := hide (fun W hW => by
    have hh := h.below hW
    obtain ⟨a0, k0, h0, r0⟩ := hh.cell 0 (by omega)
    obtain ⟨a1, k1, h1, r1⟩ := hh.cell 1 (by omega)
    obtain ⟨a2, k2, h2, r2⟩ := hh.cell 2 (by omega)
    obtain ⟨a3, k3, h3, r3⟩ := hh.cell 3 (by omega)
    have ht : tot (fun _ => n) 4 = n + n + n + n := by simp [tot]
    have := concat_any b 4 c (fun i => if i = 0 then a0 else if i = 1 then a1 else if i = 2 then a2 else a3) (fun _ => n) (fun i => if i = 0 then k0 else if i = 1 then k1 else if i = 2 then k2 else k3) (fun i => toI (Z i)) W (by omega) hc4 hcm (fun j hj => by
      rcases (show j = 0 ∨ j = 1 ∨ j = 2 ∨ j = 3 by omega) with rfl | rfl | rfl | rfl
      · exact h0
      · exact h1
      · exact h2
      · exact h3) (fun j hj => by
      rcases (show j = 0 ∨ j = 1 ∨ j = 2 ∨ j = 3 by omega) with rfl | rfl | rfl | rfl
      · exact r0
      · exact r1
      · exact r2
      · exact r3) (fun _ => by omega) (by rw [ht]; omega)
    rw [ht] at this
    exact this.mono fun _ _ ⟨a', c', h1, h2, h3⟩ => ⟨a', c', h1, Rd.of_own h2, h3⟩)
  have BP := hide (fun W (hW : Below w.heap.size w W) => bestPlay_any b c n Z U hn1 (by omega) (s : Int) ld hld hZ W (fun i hi => (hW.cell (p := ⟨0, i, none⟩) h0s).trans (hT i hi)) (h.below hW))
  have IS := hide (isStrain_any s hs)
  have CE := hide (cat_inRange Z U)
  have q1 : ¬ (4 : Int) ≤ (ld : Int) := by omega
  clear h hT U hZ
  go_enter Tryd.func5, Tryd.ntmps5
  go_wp2_with fail
  refine AH.out.mono ?_
  rintro e w1 ⟨rfl, hb1⟩
  have B1 := hide hb1
  clear hb1
  go_wp2_with fail
  refine (CC.out _ B1.out).mono ?_
  rintro e w2 ⟨a', c', rfl, hR, hb⟩
  have B2 := hide (B1.out.trans (hb.mono B1.out.size))
  have FA := hide (cards_any a' (n + n + n + n) c' _ w2 hR (by omega))
  rw [CE.out] at FA
  clear hR hb
  go_wp2_with fail
  refine FA.out.mono ?_
  rintro e w3 ⟨rfl, hb⟩
  have B3 := hide (B2.out.trans (hb.mono B2.out.size))
  clear hb FA
  go_wp2_with fail
  refine (IS.out _).mono ?_
  rintro e w4 ⟨rfl, hw⟩
  subst w4
  go_wp2_with fail
  refine (BP.out _ B3.out).mono ?_
  rintro e w5 ⟨m, hold, hMk, hPm, rfl, hb⟩
  have B5 := hide (B3.out.trans (hb.mono B3.out.size))
  have HMk := hide hMk
  have HPm := hide hPm
  clear hb hMk hPm
  go_wp2
  go_ret2
  exact ⟨m, hold, HMk.out, HPm.out, rfl, B5.out⟩

end Go.Proofs.YtiihnlpoagnkhaaDoor
