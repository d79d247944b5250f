/-
  dice.Keep where nothing is wrong. No conditions beyond those that each theorem bears.
-/
import Derived.Test.YtonmgbepkdlklaaKeep
namespace Go.Proofs.Ytonmgbepkdlklaa
open Go.RowKit

theorem rep_getD (n s i : Nat) : (List.replicate n s).getD i 0 = if i < n then s else 0 := by
  simp only [List.getD, List.getElem?_replicate]
  split <;> rfl

theorem ok_rep (n s : Nat) (L : List Nat) (hl : L.length = n) (h : Ok (List.replicate n s) n L) : ∀ x ∈ L, 1 ≤ x ∧ x ≤ s := by
  intro x hx
  obtain ⟨i, hi, rfl⟩ := List.getElem_of_mem hx
  have := h i (by omega)
  rw [rep_getD, if_pos (by omega)] at this
  simpa [List.getD, hi] using this

theorem sum_between (L : List Nat) (lo hi : Nat) (h : ∀ x ∈ L, lo ≤ x ∧ x ≤ hi) : L.length * lo ≤ L.sum ∧ L.sum ≤ L.length * hi := by
  induction L with
  | nil => simp
  | cons d L ih =>
    have h1 := ih (fun x hx => h x (by simp [hx]))
    have h2 := h d (by simp)
    rw [List.sum_cons, List.length_cons, Nat.succ_mul, Nat.succ_mul]
    omega

theorem keF_between (n k s : Nat) (L : List Nat) (hl : L.length = n) (hk : k ≤ n) (h : ∀ x ∈ L, 1 ≤ x ∧ x ≤ s) : (k : Int) ≤ keF n k L ∧ keF n k L ≤ ((k * s : Nat) : Int) := by
  have := sum_between ((isort L).drop (n - k)) 1 s (fun x hx => h x ((isort_perm L).mem_iff.1 (List.mem_of_mem_drop hx)))
  rw [List.length_drop, isort_length, hl, show n - (n - k) = k by omega] at this
  unfold keF
  omega

set_option maxRecDepth 100000 in
set_option maxHeartbeats 4000000 in
theorem Keep_yes (n s k : Nat) (w : World) (hn1 : 1 ≤ n) (hn : n ≤ 10) (hs1 : 1 ≤ s) (hs : s ≤ 20) (hk1 : 1 ≤ k) (hkn : k ≤ n) (hw : s ^ n ≤ 100000) (M : Nat) (hM : k * s - k + 1 = M) :
    Calls Try.prog 14 #[.int .i64 n, .int .i64 s, .int .i64 k] w fun e w' => ∃ b, e = .returned (.tuple #[.slice (some ⟨b, 0, none⟩) M M, .int .i64 0]) ∧ Blk w' b (tl (keF n k) k M (List.replicate n s)) ∧ w.heap.size ≤ b ∧ Below w.heap.size w w' := by
  have e1 : wnB (n : Int) = false := by unfold wnB; rw [decide_eq_false_iff_not]; omega
  have e2 : wsB (s : Int) = false := by unfold wsB; rw [decide_eq_false_iff_not]; omega
  have e4 : tmB n s = false := by unfold tmB; rw [decide_eq_false_iff_not]; omega
  have d1 : ¬ (k : Int) < 1 := by omega
  have d2 : ¬ (n : Int) < (k : Int) := by omega
  have d1' : decide ((k : Int) < 1) = false := by simpa using d1
  have d2' : decide ((n : Int) < (k : Int)) = false := by simpa using d2
  obtain ⟨Q, hQ⟩ : ∃ Q, k * s = Q := ⟨_, rfl⟩
  have hQe : (k : Int) * (s : Int) = (Q : Int) := by rw [← hQ]; simp
  have hQ1 : k ≤ Q := by rw [← hQ]; exact Nat.le_mul_of_pos_right k hs1
  have hQ2 : Q ≤ 200 := by rw [← hQ]; exact Nat.le_trans (Nat.mul_le_mul (show k ≤ 10 by omega) hs) (by omega)
  rw [hQ] at hM
  have HQ := hide hQ
  have HM := hide hM
  have HB0 := hide (((Below.refl w.heap.size w).alloc (Nat.le_refl _) (.cells #[.int .i64 (n : Int)] 3)).alloc (by simp) (.cells #[.int .i64 (k : Int)] 3))
  clear hQ hM
  go_enter Try.func14, Try.ntmps14
  go_wp2_with (first | (go_at_call 21; refine (wrongNumber_any _ _).mono ?_; rintro e w' ⟨rfl, hw'⟩; subst w') | (go_at_call 23; refine (wrongSides_any _ _).mono ?_; rintro e w' ⟨rfl, hw'⟩; subst w') | (go_at_call 29; refine (tooManyWays_any n s _ hn hs).mono ?_; rintro e w' ⟨rfl, hw'⟩; subst w'))
  clear e1 e2 e4 d1 d2 d1' d2'
  obtain ⟨P, hP⟩ : ∃ P, w.heap.size = P := ⟨_, rfl⟩
  have g0 : ((w.alloc (.cells #[.int .i64 (n : Int)] 3)).alloc (.cells #[.int .i64 (k : Int)] 3)).cell? ⟨P, 0, none⟩ = some (.int .i64 n) := by refine old_cell _ ?_; rw [← hP]; exact new_cell _ _ _
  have g1 : ((w.alloc (.cells #[.int .i64 (n : Int)] 3)).alloc (.cells #[.int .i64 (k : Int)] 3)).cell? ⟨P + 1, 0, none⟩ = some (.int .i64 k) := by
    have h1 := new_cell (w.alloc (.cells #[.int .i64 (n : Int)] 3)) (.int .i64 k) 3
    rw [show (w.alloc (.cells #[.int .i64 (n : Int)] 3)).heap.size = P + 1 by simp [hP]] at h1
    exact h1
  generalize hw0 : (w.alloc (.cells #[.int .i64 (n : Int)] 3)).alloc (.cells #[.int .i64 (k : Int)] 3) = w0 at *
  simp only [hP]
  clear hw0
  refine wp_region_held (S := fun W => Below w0.heap.size w0 W) (by kernel_rfl) ?_
  change wpAnyH _ _ _ _ _ _ _ _ (World.drew _)
  have SW : Below w0.heap.size w0 w0.drew := (Below.refl _ w0).drew
  have C0 : Hid (∀ W, Below w0.heap.size w0 W → W.cell? ⟨P, 0, none⟩ = some (.int .i64 n)) := hide (fun W hW => (hW.cell (World.block_lt_of_cell? _ _ g0)).trans g0)
  have C1 : Hid (∀ W, Below w0.heap.size w0 W → W.cell? ⟨P + 1, 0, none⟩ = some (.int .i64 k)) := hide (fun W hW => (hW.cell (World.block_lt_of_cell? _ _ g1)).trans g1)
  refine wpAnyH_take (i := 0) (v := .func (.func 30) #[] #[.pointer (some ⟨P, 0, none⟩), .pointer (some ⟨P + 1, 0, none⟩)]) rfl (by kernel_rfl) (by kernel_rfl) (by kernel_rfl) (fun _ _ _ h => h) (Or.inl ⟨by rfl, ?_⟩) SW ?_
  · intro W hW
    go_simp
  go_simp
  refine wpAnyH_take (i := 1) (v := .int .i64 k) rfl (by kernel_rfl) (by kernel_rfl) (by kernel_rfl) (fun _ _ _ h => h) (Or.inl ⟨by rfl, ?_⟩) SW ?_
  · intro W hW
    have f0 := C1.out W hW
    go_simp
  go_simp
  refine wpAnyH_take (i := 2) (v := .int .i64 k) rfl (by kernel_rfl) (by kernel_rfl) (by kernel_rfl) (fun _ _ _ h => h) (Or.inl ⟨by rfl, ?_⟩) SW ?_
  · intro W hW
    have f0 := C1.out W hW
    go_simp
  go_simp
  refine wpAnyH_take (i := 3) (v := .int .i64 s) rfl (by kernel_rfl) (by kernel_rfl) (by kernel_rfl) (fun _ _ _ h => h) (Or.inl ⟨by rfl, ?_⟩) SW ?_
  · intro W hW
    go_simp
  go_simp
  refine wpAnyH_take (i := 4) (v := .int .i64 Q) rfl (by kernel_rfl) (by kernel_rfl) (by kernel_rfl) (fun _ _ _ h => h) (Or.inl ⟨by rfl, ?_⟩) SW ?_
  · intro W hW
    go_simp
    rw [IntKind.wrap_i64]
    omega
  go_simp
  refine wpAnyH_take (i := 5) (v := .int .i64 n) rfl (by kernel_rfl) (by kernel_rfl) (by kernel_rfl) (fun _ _ _ h => h) (Or.inl ⟨by rfl, ?_⟩) SW ?_
  · intro W hW
    have f0 := C0.out W hW
    go_simp
  go_simp
  refine wpAnyH_take (i := 6) (v := .int .i64 s) rfl (by kernel_rfl) (by kernel_rfl) (by kernel_rfl) (fun _ _ _ h => h) (Or.inl ⟨by rfl, ?_⟩) SW ?_
  · intro W hW
    go_simp
  go_simp
  refine wpAnyH_ready (rs := [7]) (by kernel_rfl) (by simp) ?_
  refine AllReadyH.cons rfl (fun K1 hK1 => ?_) AllReadyH.nil
  go_simp
  refine (alike_any n s _ (by omega) hn1).mono ?_
  rintro e w1 ⟨b1, rfl, hT1, hB1⟩
  have SW1 := SW.trans (hB1.mono SW.size)
  refine hK1.out _ _ SW1 (fun SW => ?_)
  clear hK1 K1 SW1
  have HT1 := hide hT1
  clear hT1 hB1
  go_simp
  refine wpAnyH_ready (rs := [8]) (by kernel_rfl) (by simp) ?_
  refine AllReadyH.cons rfl (fun K1 hK1 => ?_) AllReadyH.nil
  go_simp
  have R1 := HT1.out.rd (by rw [List.length_replicate]; unfold maxLen; omega)
  rw [List.length_replicate] at R1
  refine (tally_any (some ⟨b1, 0, none⟩) n M 30 #[.pointer (some ⟨P, 0, none⟩), .pointer (some ⟨P + 1, 0, none⟩)] (k : Int) (Q : Int) (List.replicate n s) n (by simp) (by omega) (by omega) (keF n k) w1 (enters_of Try.func30 (by kernel_rfl) rfl) R1 (by have := HM.out; omega) (by omega) (by omega) (by have := HM.out; omega)
    (fun W L SB hW _ hL hl hO => keep1_any P (P + 1) SB n k L W (C0.out W (SW.trans (hW.mono SW.size))) (C1.out W (SW.trans (hW.mono SW.size))) hL hl hk1 hkn hn (fun x hx => Nat.le_trans (ok_rep n s L hl hO x hx).2 hs))
    (fun L hl hO => by have := keF_between n k s L hl hkn (ok_rep n s L hl hO); rw [HQ.out] at this; have := HM.out; omega)
    (fun i => by rw [rep_getD]; split <;> omega) (by rw [prod_pow]; omega)).mono ?_
  rintro e w2 ⟨b2, rfl, hT2, hb2, hB2⟩
  have SW2 := SW.trans (hB2.mono SW.size)
  have HT2 := hide hT2
  have HBB := hide (Nat.le_trans SW.size hb2)
  refine hK1.out _ _ SW2 (fun SW => ?_)
  clear hK1 K1 SW2 hT2 hB2 hb2 R1
  go_simp
  refine wpAnyH_take (i := 9) (v := .slice (some ⟨b2, 0, none⟩) M M) rfl (by kernel_rfl) (by kernel_rfl) (by kernel_rfl) (fun _ _ _ h => h) (Or.inl ⟨by rfl, ?_⟩) SW ?_
  · intro W hW
    go_simp
  go_simp
  refine wpAnyH_take (i := 10) (v := .int .i64 0) rfl (by kernel_rfl) (by kernel_rfl) (by kernel_rfl) (fun _ _ _ h => h) (Or.inl ⟨by rfl, ?_⟩) SW ?_
  · intro W hW
    go_simp
  go_simp
  refine wpAnyH_done (by kernel_rfl) ?_ _
  have HBZ := hide (HB0.out.trans (SW.mono HB0.out.size))
  have HBY : Hid (w.heap.size ≤ b2) := hide (Nat.le_trans HB0.out.size HBB.out)
  clear SW C0 C1 g0 g1 HB0 HBB
  go_wp2_with fail
  go_ret2
  exact ⟨b2, rfl, HT2.out, HBY.out, HBZ.out⟩

end Go.Proofs.Ytonmgbepkdlklaa
