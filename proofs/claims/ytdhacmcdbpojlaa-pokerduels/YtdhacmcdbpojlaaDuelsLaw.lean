/-
  The law 'PokerDuels': every way through it ends with true. No conditions beyond those that each theorem bears.
-/
import Derived.Test.YtdhacmcdbpojlaaDuel
import Derived.Test.YtdhacmcdbpojlaaCountSum
import Derived.Test.YtdhacmcdbpojlaaHand2
namespace Go.Proofs.Ytdhacmcdbpojlaa
open Go.RowKit Go.Shelf

theorem rd_mid {w : World} {b off n c : Nat} {L : List Nat} (h : Rd w (some ⟨b, off, none⟩) n c (toI L)) (lo len : Nat) (hl : lo + len ≤ n) : Rd w (some ⟨b, off + lo, none⟩) len (c - lo) (toI ((L.drop lo).take len)) := by
  have hlen := h.len
  rw [toI_length] at hlen
  have hcap := h.cap
  have hmax := h.max
  refine ⟨by rw [toI_length]; simp; omega, by omega, by omega, (fun h => by cases h), fun h0 => ⟨b, off + lo, rfl, fun i hi => ?_⟩⟩
  obtain ⟨b', off', e, hc⟩ := h.cells (by omega)
  simp only [Option.some.injEq, Addr.mk.injEq, and_true] at e
  obtain ⟨rfl, rfl⟩ := e
  have := hc (lo + i) (by omega)
  rw [toI_getD] at this ⊢
  rw [show off + lo + i = off + (lo + i) by omega, this]
  congr 3
  simp only [List.getD]
  rw [List.getElem?_take, if_pos hi, List.getElem?_drop]

theorem swap_ok {A E D : List Nat} (hlt : ∀ x ∈ A ++ E ++ D, x < 52) (hnd : (A ++ E ++ D).Nodup) : (∀ x ∈ E ++ A ++ D, x < 52) ∧ (E ++ A ++ D).Nodup := by
  have hp : (A ++ E ++ D).Perm (E ++ A ++ D) := List.Perm.append_right D List.perm_append_comm
  exact ⟨fun x hx => hlt x (hp.mem_iff.2 hx), hp.nodup_iff.1 hnd⟩

theorem three (f g : List Nat → Int) : ∀ xs : List (List Nat), (xs.filter (fun s => decide (g s < f s))).length + (xs.filter (fun s => decide (f s < g s))).length + (xs.filter (fun s => decide (f s = g s))).length = xs.length
  | [] => rfl
  | s :: l => by
    have hi := three f g l
    rcases Int.lt_trichotomy (f s) (g s) with h | h | h
    · have h1 : ¬ g s < f s := by omega
      have h2 : ¬ f s = g s := by omega
      simp only [List.filter_cons, h, h1, h2, decide_true, decide_false, if_true, List.length_cons, Bool.false_eq_true, if_false]
      omega
    · have h1 : ¬ g s < f s := by omega
      have h2 : ¬ f s < g s := by omega
      simp only [List.filter_cons, h1, h2, decide_eq_true h, decide_false, if_true, List.length_cons, Bool.false_eq_true, if_false]
      omega
    · have h1 : ¬ f s < g s := by omega
      have h2 : ¬ f s = g s := by omega
      simp only [List.filter_cons, h, h1, h2, decide_true, decide_false, if_true, List.length_cons, Bool.false_eq_true, if_false]
      omega

theorem tie_sym (f g : List Nat → Int) (xs : List (List Nat)) : (xs.filter (fun s => decide (g s = f s))).length = (xs.filter (fun s => decide (f s = g s))).length := by
  have h : (fun s => decide (g s = f s)) = (fun s => decide (f s = g s)) := by
    funext s
    rw [Bool.eq_iff_iff]
    simp only [decide_eq_true_eq]
    exact eq_comm
  rw [h]

theorem oth_swap (A E D : List Nat) : othK (toI (E ++ A ++ D)) 52 = othK (toI (A ++ E ++ D)) 52 := by
  unfold othK
  apply List.filter_congr
  intro c _
  congr 1
  rw [Bool.eq_iff_iff]
  simp only [List.contains_iff_mem, toI, List.mem_map, List.mem_append]
  constructor
  · rintro ⟨x, (h | h) | h, e⟩
    · exact ⟨x, .inl (.inr h), e⟩
    · exact ⟨x, .inl (.inl h), e⟩
    · exact ⟨x, .inr h, e⟩
  · rintro ⟨x, (h | h) | h, e⟩
    · exact ⟨x, .inl (.inr h), e⟩
    · exact ⟨x, .inl (.inl h), e⟩
    · exact ⟨x, .inr h, e⟩

theorem duel_math (A E D : List Nat) (m : Nat) (hA : A.length = 2) (hE : E.length = 2) (hD : D.length = m) : ∃ nw nx nt np : Nat,
    winC A E D (othK (toI (A ++ E ++ D)) 52) (comb (5 - m) (List.range (othK (toI (A ++ E ++ D)) 52).length)) = nw ∧
    tieC A E D (othK (toI (A ++ E ++ D)) 52) (comb (5 - m) (List.range (othK (toI (A ++ E ++ D)) 52).length)) = nt ∧
    (comb (5 - m) (List.range (othK (toI (A ++ E ++ D)) 52).length)).length = np ∧
    winC E A D (othK (toI (E ++ A ++ D)) 52) (comb (5 - m) (List.range (othK (toI (E ++ A ++ D)) 52).length)) = nx ∧
    tieC E A D (othK (toI (E ++ A ++ D)) 52) (comb (5 - m) (List.range (othK (toI (E ++ A ++ D)) 52).length)) = nt ∧
    (comb (5 - m) (List.range (othK (toI (E ++ A ++ D)) 52).length)).length = np ∧ nw + nx + nt = np ∧ 0 < np ∧ np ≤ 4503599627370496 := by
  rw [oth_swap A E D]
  have hl := othK_lower 52 (toI (A ++ E ++ D))
  have hu := othK_len (toI (A ++ E ++ D)) 52
  rw [toI_length, List.length_append, List.length_append, hA, hE, hD] at hl
  obtain ⟨R, hR⟩ : ∃ R, othK (toI (A ++ E ++ D)) 52 = R := ⟨_, rfl⟩
  rw [hR] at hl hu ⊢
  obtain ⟨rest, hc, _⟩ := sets_run R.length (5 - m) (by omega)
  have hle := comb_le (List.range R.length) (5 - m)
  rw [List.length_range] at hle
  have h3 : 2 ^ R.length ≤ 2 ^ 52 := Nat.pow_le_pow_right (by omega) hu
  have h4 : (2 : Nat) ^ 52 = 4503599627370496 := by decide
  have hp : 0 < (comb (5 - m) (List.range R.length)).length := by rw [hc]; simp
  obtain ⟨xs, hxs⟩ : ∃ xs, comb (5 - m) (List.range R.length) = xs := ⟨_, rfl⟩
  rw [hxs] at hle hp ⊢
  rw [h4] at h3
  have ht : tieC E A D R xs = tieC A E D R xs := tie_sym (xv A D R) (xv E D R) xs
  have h5 : winC A E D R xs + winC E A D R xs + tieC A E D R xs = xs.length := three (xv A D R) (xv E D R) xs
  exact ⟨winC A E D R xs, winC E A D R xs, tieC A E D R xs, xs.length, rfl, rfl, rfl, rfl, ht, rfl, h5, hp, Nat.le_trans hle h3⟩

set_option maxRecDepth 100000 in
set_option maxHeartbeats 8000000 in
theorem duels_any (a : Option Addr) (n c : Nat) (zs : List Int) (t : Int) (hz : ∀ z ∈ zs, -9223372036854775808 ≤ z ∧ z ≤ 9223372036854775807) (ht1 : -9223372036854775808 ≤ t) (ht2 : t ≤ 9223372036854775807) (w : World) (h : Rd w a n c zs) :
    Calls Try.prog 7 #[.slice a n c, .int .i64 t] w fun e w' => e = .returned (.bool true) ∧ Below w.heap.size w w' := by
  have HR := hide h
  have HZ := hide hz
  clear h hz
  go_enter Try.func7, Try.ntmps7
  go_wp2_with fail
  refine (hand_keep a n c 9 zs HZ.out (by omega) w HR.out).mono ?_
  rintro e w1 ⟨L, a1, c1, hL1, hL2, hL3, rfl, hR1, hB1⟩
  have HR1 := hide hR1
  have HB1 := hide hB1
  obtain ⟨b, off, rfl, _⟩ := hR1.cells (by omega)
  have hc9 := hR1.cap
  have hcm := hR1.max
  unfold maxLen at hcm
  have k2 : ¬ c1 = 2 := by omega
  have k4 : ¬ c1 = 4 := by omega
  clear hR1 hB1 HR HZ
  go_wp2_with fail
  refine (picked_any t 2 _ ht1 ht2 (by omega) (by omega)).mono ?_
  rintro e w5 ⟨rfl, hw⟩
  subst w5
  have hk2 : pk t 2 < 2 := pk_lt _ _ (by omega)
  obtain ⟨q, hq⟩ : ∃ q, pk t 2 = q := ⟨_, rfl⟩
  rw [hq] at hk2 ⊢
  clear hq
  rcases (by omega : q = 0 ∨ q = 1) with rfl | rfl
  · have hA : (L.take 2).length = 2 := by simp [hL1]
    have hE : ((L.drop 2).take 2).length = 2 := by simp [hL1]
    have hD : ((L.drop 4).take 4).length = 4 := by simp [hL1]
    have hcat : L.take 2 ++ (L.drop 2).take 2 ++ (L.drop 4).take 4 = L.take 8 := by
      match L, hL1 with
      | [q0, q1, q2, q3, q4, q5, q6, q7, q8], _ => rfl
    have hlt : ∀ x ∈ L.take 2 ++ (L.drop 2).take 2 ++ (L.drop 4).take 4, x < 52 := by rw [hcat]; exact fun x hx => hL3 x (List.mem_of_mem_take hx)
    have hnd : (L.take 2 ++ (L.drop 2).take 2 ++ (L.drop 4).take 4).Nodup := by rw [hcat]; exact hL2.sublist (List.take_sublist _ _)
    have RA := hide (rd_mid HR1.out 0 2 (by omega))
    have RE := hide (rd_mid HR1.out 2 2 (by omega))
    have RD := hide (rd_mid HR1.out 4 4 (by omega))
    rw [List.drop_zero] at RA
    obtain ⟨A, hAe⟩ : ∃ A, L.take 2 = A := ⟨_, rfl⟩
    obtain ⟨E, hEe⟩ : ∃ A, (L.drop 2).take 2 = A := ⟨_, rfl⟩
    obtain ⟨D, hDe⟩ : ∃ A, (L.drop 4).take 4 = A := ⟨_, rfl⟩
    rw [hAe] at RA
    rw [hEe] at RE
    rw [hDe] at RD
    rw [hAe, hEe, hDe] at hlt hnd
    rw [hAe] at hA
    rw [hEe] at hE
    rw [hDe] at hD
    clear hAe hEe hDe hcat hL1 hL2 hL3
    obtain ⟨hlt', hnd'⟩ := swap_ok hlt hnd
    obtain ⟨nw, nx, nt, np, e1, e2, e3, e4, e5, e6, hsum, hpos, hmax⟩ := duel_math A E D 4 hA hE hD
    have SD1 : Hid (∀ W, Below w1.heap.size w1 W → Calls Try.prog 17 #[.slice (some ⟨b, off, none⟩) 2 c1, .slice (some ⟨b, off + 2, none⟩) 2 (c1 - 2), .slice (some ⟨b, off + 4, none⟩) 4 (c1 - 4)] W fun e w' => e = .returned (.tuple #[.int .i64 (nw : Nat), .int .i64 (nt : Nat), .int .i64 (np : Nat), .int .i64 0]) ∧ Below W.heap.size W w') := hide (fun W hW => by
      have h := Showdown_ok (some ⟨b, off, none⟩) (some ⟨b, off + 2, none⟩) (some ⟨b, off + 4, none⟩) c1 (c1 - 2) (c1 - 4) 4 A E D hA hE hD (by omega) hlt hnd W (RA.out.mono hW) (RE.out.mono hW) (RD.out.mono hW)
      rw [e1, e2, e3] at h
      exact h)
    have SD2 : Hid (∀ W, Below w1.heap.size w1 W → Calls Try.prog 17 #[.slice (some ⟨b, off + 2, none⟩) 2 (c1 - 2), .slice (some ⟨b, off, none⟩) 2 c1, .slice (some ⟨b, off + 4, none⟩) 4 (c1 - 4)] W fun e w' => e = .returned (.tuple #[.int .i64 (nx : Nat), .int .i64 (nt : Nat), .int .i64 (np : Nat), .int .i64 0]) ∧ Below W.heap.size W w') := hide (fun W hW => by
      have h := Showdown_ok (some ⟨b, off + 2, none⟩) (some ⟨b, off, none⟩) (some ⟨b, off + 4, none⟩) (c1 - 2) c1 (c1 - 4) 4 E A D hE hA hD (by omega) hlt' hnd' W (RE.out.mono hW) (RA.out.mono hW) (RD.out.mono hW)
      rw [e4, e5, e6] at h
      exact h)
    clear hA hE hD hlt hnd hlt' hnd' e1 e2 e3 e4 e5 e6 RA RE RD HR1
    have HC : Hid (Below w1.heap.size w1 w1) := hide (Below.refl _ w1)
    have bpos : ¬ (np : Int) ≤ 0 := by omega
    have bsum : ((nw : Int) + (nx : Int)) + (nt : Int) = (np : Int) := by omega
    go_wp2_with fail
    refine wp_region_held (S := fun W => Below w1.heap.size w1 W) (by kernel_rfl) ?_
    change wpAnyH _ _ _ _ _ _ _ _ (World.drew _)
    have SW : Below w1.heap.size w1 w1.drew := (Below.refl _ w1).drew
    refine wpAnyH_take (i := 0) (v := .slice (some ⟨b, off, none⟩) 9 c1) rfl (by kernel_rfl) (by kernel_rfl) (by kernel_rfl) (fun _ _ _ h => h) (Or.inl ⟨by rfl, ?_⟩) SW ?_
    · intro W _
      go_simp <;> first | (intro hh; exfalso; omega) | (rw [IntKind.wrap_i64]; omega) | rfl
    go_simp
    refine wpAnyH_take (i := 1) (v := .slice (some ⟨b, off, none⟩) 2 c1) rfl (by kernel_rfl) (by kernel_rfl) (by kernel_rfl) (fun _ _ _ h => h) (Or.inl ⟨by rfl, ?_⟩) SW ?_
    · intro W _
      go_simp <;> first | (intro hh; exfalso; omega) | (rw [IntKind.wrap_i64]; omega) | rfl
    go_simp
    refine wpAnyH_take (i := 2) (v := .slice (some ⟨b, off, none⟩) 9 c1) rfl (by kernel_rfl) (by kernel_rfl) (by kernel_rfl) (fun _ _ _ h => h) (Or.inl ⟨by rfl, ?_⟩) SW ?_
    · intro W _
      go_simp <;> first | (intro hh; exfalso; omega) | (rw [IntKind.wrap_i64]; omega) | rfl
    go_simp
    refine wpAnyH_take (i := 3) (v := .slice (some ⟨b, off + 2, none⟩) 2 (c1 - 2)) rfl (by kernel_rfl) (by kernel_rfl) (by kernel_rfl) (fun _ _ _ h => h) (Or.inl ⟨by rfl, ?_⟩) SW ?_
    · intro W _
      go_simp <;> first | (intro hh; exfalso; omega) | (rw [IntKind.wrap_i64]; omega) | rfl
    go_simp
    refine wpAnyH_take (i := 4) (v := .slice (some ⟨b, off, none⟩) 9 c1) rfl (by kernel_rfl) (by kernel_rfl) (by kernel_rfl) (fun _ _ _ h => h) (Or.inl ⟨by rfl, ?_⟩) SW ?_
    · intro W _
      go_simp <;> first | (intro hh; exfalso; omega) | (rw [IntKind.wrap_i64]; omega) | rfl
    go_simp
    refine wpAnyH_take (i := 5) (v := .int .i64 4) rfl (by kernel_rfl) (by kernel_rfl) (by kernel_rfl) (fun _ _ _ h => h) (Or.inl ⟨by rfl, ?_⟩) SW ?_
    · intro W _
      go_simp <;> first | (intro hh; exfalso; omega) | (rw [IntKind.wrap_i64]; omega) | rfl
    go_simp
    refine wpAnyH_take (i := 6) (v := .int .i64 8) rfl (by kernel_rfl) (by kernel_rfl) (by kernel_rfl) (fun _ _ _ h => h) (Or.inl ⟨by rfl, ?_⟩) SW ?_
    · intro W _
      go_simp <;> first | (intro hh; exfalso; omega) | (rw [IntKind.wrap_i64]; omega) | rfl
    go_simp
    refine wpAnyH_take (i := 7) (v := .slice (some ⟨b, off + 4, none⟩) 4 (c1 - 4)) rfl (by kernel_rfl) (by kernel_rfl) (by kernel_rfl) (fun _ _ _ h => h) (Or.inl ⟨by rfl, ?_⟩) SW ?_
    · intro W _
      go_simp <;> first | (intro hh; exfalso; omega) | (rw [IntKind.wrap_i64]; omega) | rfl
    go_simp
    refine wpAnyH_ready (rs := [8]) (by kernel_rfl) (by simp) ?_
    refine AllReadyH.cons rfl (fun K1 hK1 => ?_) AllReadyH.nil
    go_simp
    refine (SD1.out _ (HC.out.trans (SW.mono HC.out.size))).mono ?_
    rintro e w2 ⟨rfl, hBx⟩
    have SW2 := SW.trans (hBx.mono SW.size)
    refine hK1.out _ _ SW2 (fun _ => ?_)
    clear hK1 K1 hBx SW
    have SW := SW2
    clear SW2
    go_simp
    refine wpAnyH_take (i := 9) (v := .tuple #[.int .i64 (nw : Nat), .int .i64 (nt : Nat), .int .i64 (np : Nat), .int .i64 0]) rfl (by kernel_rfl) (by kernel_rfl) (by kernel_rfl) (fun _ _ _ h => h) (Or.inl ⟨by rfl, ?_⟩) SW ?_
    · intro W _
      go_simp <;> first | (intro hh; exfalso; omega) | (rw [IntKind.wrap_i64]; omega) | rfl
    go_simp
    refine wpAnyH_take (i := 10) (v := .int .i64 (nw : Nat)) rfl (by kernel_rfl) (by kernel_rfl) (by kernel_rfl) (fun _ _ _ h => h) (Or.inl ⟨by rfl, ?_⟩) SW ?_
    · intro W _
      go_simp <;> first | (intro hh; exfalso; omega) | (rw [IntKind.wrap_i64]; omega) | rfl
    go_simp
    refine wpAnyH_take (i := 11) (v := .int .i64 (nt : Nat)) rfl (by kernel_rfl) (by kernel_rfl) (by kernel_rfl) (fun _ _ _ h => h) (Or.inl ⟨by rfl, ?_⟩) SW ?_
    · intro W _
      go_simp <;> first | (intro hh; exfalso; omega) | (rw [IntKind.wrap_i64]; omega) | rfl
    go_simp
    refine wpAnyH_take (i := 12) (v := .int .i64 (np : Nat)) rfl (by kernel_rfl) (by kernel_rfl) (by kernel_rfl) (fun _ _ _ h => h) (Or.inl ⟨by rfl, ?_⟩) SW ?_
    · intro W _
      go_simp <;> first | (intro hh; exfalso; omega) | (rw [IntKind.wrap_i64]; omega) | rfl
    go_simp
    refine wpAnyH_take (i := 13) (v := .int .i64 0) rfl (by kernel_rfl) (by kernel_rfl) (by kernel_rfl) (fun _ _ _ h => h) (Or.inl ⟨by rfl, ?_⟩) SW ?_
    · intro W _
      go_simp <;> first | (intro hh; exfalso; omega) | (rw [IntKind.wrap_i64]; omega) | rfl
    go_simp
    refine wpAnyH_take (i := 14) (v := .int .i64 (nw : Nat)) rfl (by kernel_rfl) (by kernel_rfl) (by kernel_rfl) (fun _ _ _ h => h) (Or.inl ⟨by rfl, ?_⟩) SW ?_
    · intro W _
      go_simp <;> first | (intro hh; exfalso; omega) | (rw [IntKind.wrap_i64]; omega) | rfl
    go_simp
    refine wpAnyH_take (i := 15) (v := .int .i64 (nt : Nat)) rfl (by kernel_rfl) (by kernel_rfl) (by kernel_rfl) (fun _ _ _ h => h) (Or.inl ⟨by rfl, ?_⟩) SW ?_
    · intro W _
      go_simp <;> first | (intro hh; exfalso; omega) | (rw [IntKind.wrap_i64]; omega) | rfl
    go_simp
    refine wpAnyH_take (i := 16) (v := .int .i64 (np : Nat)) rfl (by kernel_rfl) (by kernel_rfl) (by kernel_rfl) (fun _ _ _ h => h) (Or.inl ⟨by rfl, ?_⟩) SW ?_
    · intro W _
      go_simp <;> first | (intro hh; exfalso; omega) | (rw [IntKind.wrap_i64]; omega) | rfl
    go_simp
    refine wpAnyH_take (i := 17) (v := .int .i64 0) rfl (by kernel_rfl) (by kernel_rfl) (by kernel_rfl) (fun _ _ _ h => h) (Or.inl ⟨by rfl, ?_⟩) SW ?_
    · intro W _
      go_simp <;> first | (intro hh; exfalso; omega) | (rw [IntKind.wrap_i64]; omega) | rfl
    go_simp
    refine wpAnyH_done (by kernel_rfl) ?_ _
    replace HC := hide (HC.out.trans (SW.mono HC.out.size))
    clear SW SD1
    go_wp2_with fail
    refine wp_region_held (S := fun W => Below w2.heap.size w2 W) (by kernel_rfl) ?_
    change wpAnyH _ _ _ _ _ _ _ _ (World.drew _)
    have SW : Below w2.heap.size w2 w2.drew := (Below.refl _ w2).drew
    refine wpAnyH_take (i := 0) (v := .slice (some ⟨b, off, none⟩) 9 c1) rfl (by kernel_rfl) (by kernel_rfl) (by kernel_rfl) (fun _ _ _ h => h) (Or.inl ⟨by rfl, ?_⟩) SW ?_
    · intro W _
      go_simp <;> first | (intro hh; exfalso; omega) | (rw [IntKind.wrap_i64]; omega) | rfl
    go_simp
    refine wpAnyH_take (i := 1) (v := .slice (some ⟨b, off + 2, none⟩) 2 (c1 - 2)) rfl (by kernel_rfl) (by kernel_rfl) (by kernel_rfl) (fun _ _ _ h => h) (Or.inl ⟨by rfl, ?_⟩) SW ?_
    · intro W _
      go_simp <;> first | (intro hh; exfalso; omega) | (rw [IntKind.wrap_i64]; omega) | rfl
    go_simp
    refine wpAnyH_take (i := 2) (v := .slice (some ⟨b, off, none⟩) 9 c1) rfl (by kernel_rfl) (by kernel_rfl) (by kernel_rfl) (fun _ _ _ h => h) (Or.inl ⟨by rfl, ?_⟩) SW ?_
    · intro W _
      go_simp <;> first | (intro hh; exfalso; omega) | (rw [IntKind.wrap_i64]; omega) | rfl
    go_simp
    refine wpAnyH_take (i := 3) (v := .slice (some ⟨b, off, none⟩) 2 c1) rfl (by kernel_rfl) (by kernel_rfl) (by kernel_rfl) (fun _ _ _ h => h) (Or.inl ⟨by rfl, ?_⟩) SW ?_
    · intro W _
      go_simp <;> first | (intro hh; exfalso; omega) | (rw [IntKind.wrap_i64]; omega) | rfl
    go_simp
    refine wpAnyH_take (i := 4) (v := .slice (some ⟨b, off, none⟩) 9 c1) rfl (by kernel_rfl) (by kernel_rfl) (by kernel_rfl) (fun _ _ _ h => h) (Or.inl ⟨by rfl, ?_⟩) SW ?_
    · intro W _
      go_simp <;> first | (intro hh; exfalso; omega) | (rw [IntKind.wrap_i64]; omega) | rfl
    go_simp
    refine wpAnyH_take (i := 5) (v := .int .i64 4) rfl (by kernel_rfl) (by kernel_rfl) (by kernel_rfl) (fun _ _ _ h => h) (Or.inl ⟨by rfl, ?_⟩) SW ?_
    · intro W _
      go_simp <;> first | (intro hh; exfalso; omega) | (rw [IntKind.wrap_i64]; omega) | rfl
    go_simp
    refine wpAnyH_take (i := 6) (v := .int .i64 8) rfl (by kernel_rfl) (by kernel_rfl) (by kernel_rfl) (fun _ _ _ h => h) (Or.inl ⟨by rfl, ?_⟩) SW ?_
    · intro W _
      go_simp <;> first | (intro hh; exfalso; omega) | (rw [IntKind.wrap_i64]; omega) | rfl
    go_simp
    refine wpAnyH_take (i := 7) (v := .slice (some ⟨b, off + 4, none⟩) 4 (c1 - 4)) rfl (by kernel_rfl) (by kernel_rfl) (by kernel_rfl) (fun _ _ _ h => h) (Or.inl ⟨by rfl, ?_⟩) SW ?_
    · intro W _
      go_simp <;> first | (intro hh; exfalso; omega) | (rw [IntKind.wrap_i64]; omega) | rfl
    go_simp
    refine wpAnyH_ready (rs := [8]) (by kernel_rfl) (by simp) ?_
    refine AllReadyH.cons rfl (fun K1 hK1 => ?_) AllReadyH.nil
    go_simp
    refine (SD2.out _ (HC.out.trans (SW.mono HC.out.size))).mono ?_
    rintro e w3 ⟨rfl, hBx⟩
    have SW2 := SW.trans (hBx.mono SW.size)
    refine hK1.out _ _ SW2 (fun _ => ?_)
    clear hK1 K1 hBx SW
    have SW := SW2
    clear SW2
    go_simp
    refine wpAnyH_take (i := 9) (v := .tuple #[.int .i64 (nx : Nat), .int .i64 (nt : Nat), .int .i64 (np : Nat), .int .i64 0]) rfl (by kernel_rfl) (by kernel_rfl) (by kernel_rfl) (fun _ _ _ h => h) (Or.inl ⟨by rfl, ?_⟩) SW ?_
    · intro W _
      go_simp <;> first | (intro hh; exfalso; omega) | (rw [IntKind.wrap_i64]; omega) | rfl
    go_simp
    refine wpAnyH_take (i := 10) (v := .int .i64 (nx : Nat)) rfl (by kernel_rfl) (by kernel_rfl) (by kernel_rfl) (fun _ _ _ h => h) (Or.inl ⟨by rfl, ?_⟩) SW ?_
    · intro W _
      go_simp <;> first | (intro hh; exfalso; omega) | (rw [IntKind.wrap_i64]; omega) | rfl
    go_simp
    refine wpAnyH_take (i := 11) (v := .int .i64 (nt : Nat)) rfl (by kernel_rfl) (by kernel_rfl) (by kernel_rfl) (fun _ _ _ h => h) (Or.inl ⟨by rfl, ?_⟩) SW ?_
    · intro W _
      go_simp <;> first | (intro hh; exfalso; omega) | (rw [IntKind.wrap_i64]; omega) | rfl
    go_simp
    refine wpAnyH_take (i := 12) (v := .int .i64 (np : Nat)) rfl (by kernel_rfl) (by kernel_rfl) (by kernel_rfl) (fun _ _ _ h => h) (Or.inl ⟨by rfl, ?_⟩) SW ?_
    · intro W _
      go_simp <;> first | (intro hh; exfalso; omega) | (rw [IntKind.wrap_i64]; omega) | rfl
    go_simp
    refine wpAnyH_take (i := 13) (v := .int .i64 0) rfl (by kernel_rfl) (by kernel_rfl) (by kernel_rfl) (fun _ _ _ h => h) (Or.inl ⟨by rfl, ?_⟩) SW ?_
    · intro W _
      go_simp <;> first | (intro hh; exfalso; omega) | (rw [IntKind.wrap_i64]; omega) | rfl
    go_simp
    refine wpAnyH_take (i := 14) (v := .int .i64 (nx : Nat)) rfl (by kernel_rfl) (by kernel_rfl) (by kernel_rfl) (fun _ _ _ h => h) (Or.inl ⟨by rfl, ?_⟩) SW ?_
    · intro W _
      go_simp <;> first | (intro hh; exfalso; omega) | (rw [IntKind.wrap_i64]; omega) | rfl
    go_simp
    refine wpAnyH_take (i := 15) (v := .int .i64 (nt : Nat)) rfl (by kernel_rfl) (by kernel_rfl) (by kernel_rfl) (fun _ _ _ h => h) (Or.inl ⟨by rfl, ?_⟩) SW ?_
    · intro W _
      go_simp <;> first | (intro hh; exfalso; omega) | (rw [IntKind.wrap_i64]; omega) | rfl
    go_simp
    refine wpAnyH_take (i := 16) (v := .int .i64 (np : Nat)) rfl (by kernel_rfl) (by kernel_rfl) (by kernel_rfl) (fun _ _ _ h => h) (Or.inl ⟨by rfl, ?_⟩) SW ?_
    · intro W _
      go_simp <;> first | (intro hh; exfalso; omega) | (rw [IntKind.wrap_i64]; omega) | rfl
    go_simp
    refine wpAnyH_take (i := 17) (v := .int .i64 0) rfl (by kernel_rfl) (by kernel_rfl) (by kernel_rfl) (fun _ _ _ h => h) (Or.inl ⟨by rfl, ?_⟩) SW ?_
    · intro W _
      go_simp <;> first | (intro hh; exfalso; omega) | (rw [IntKind.wrap_i64]; omega) | rfl
    go_simp
    refine wpAnyH_done (by kernel_rfl) ?_ _
    replace HC := hide (HC.out.trans (SW.mono HC.out.size))
    clear SW SD2
    go_wp2_with fail
    refine (Counts_any w3).mono ?_
    rintro e w4 ⟨T, hT, hcnt, rfl, hB4⟩
    have h0 := hcnt 0 (by omega)
    have h1 := hcnt 1 (by omega)
    have h2 := hcnt 2 (by omega)
    have h3 := hcnt 3 (by omega)
    have h4 := hcnt 4 (by omega)
    have h5 := hcnt 5 (by omega)
    have h6 := hcnt 6 (by omega)
    have h7 := hcnt 7 (by omega)
    have h8 := hcnt 8 (by omega)
    have hs := cnt_sum ((comb 5 (List.range 52)).map (pick (List.range 52)))
    rw [← h0, ← h1, ← h2, ← h3, ← h4, ← h5, ← h6, ← h7, ← h8, List.length_map, comb52] at hs
    obtain ⟨t0, t1, t2, t3, t4, t5, t6, t7, t8, rfl⟩ : ∃ t0 t1 t2 t3 t4 t5 t6 t7 t8, T = [t0, t1, t2, t3, t4, t5, t6, t7, t8] := by
      match T, hT with
      | [t0, t1, t2, t3, t4, t5, t6, t7, t8], _ => exact ⟨t0, t1, t2, t3, t4, t5, t6, t7, t8, rfl⟩
    simp only [List.getD, List.getElem?_cons_zero, List.getElem?_cons_succ, Option.getD_some] at hs
    simp only [toI, List.map_cons, List.map_nil]
    clear h0 h1 h2 h3 h4 h5 h6 h7 h8 hcnt hT
    replace HC := hide (HC.out.trans (hB4.mono HC.out.size))
    clear hB4
    have s8 : ((((((((t0 : Int) + t1) + t2) + t3) + t4) + t5) + t6) + t7) + t8 = 2598960 := by omega
    go_wp2_with fail
    refine wp_loop_rounds 10 ?_
    rw [rounds_succ]
    go_wp2
    rw [rounds_succ]
    go_wp2
    rw [rounds_succ]
    go_wp2
    rw [rounds_succ]
    go_wp2
    rw [rounds_succ]
    go_wp2
    rw [rounds_succ]
    go_wp2
    rw [rounds_succ]
    go_wp2
    rw [rounds_succ]
    go_wp2
    rw [rounds_succ]
    go_wp2
    rw [rounds_succ]
    go_wp2
    go_ret
    refine ⟨by simp, HB1.out.trans ((HC.out.alloc HC.out.size _).mono HB1.out.size)⟩
  · have hA : (L.take 2).length = 2 := by simp [hL1]
    have hE : ((L.drop 2).take 2).length = 2 := by simp [hL1]
    have hD : ((L.drop 4).take 5).length = 5 := by simp [hL1]
    have hcat : L.take 2 ++ (L.drop 2).take 2 ++ (L.drop 4).take 5 = L.take 9 := by
      match L, hL1 with
      | [q0, q1, q2, q3, q4, q5, q6, q7, q8], _ => rfl
    have hlt : ∀ x ∈ L.take 2 ++ (L.drop 2).take 2 ++ (L.drop 4).take 5, x < 52 := by rw [hcat]; exact fun x hx => hL3 x (List.mem_of_mem_take hx)
    have hnd : (L.take 2 ++ (L.drop 2).take 2 ++ (L.drop 4).take 5).Nodup := by rw [hcat]; exact hL2.sublist (List.take_sublist _ _)
    have RA := hide (rd_mid HR1.out 0 2 (by omega))
    have RE := hide (rd_mid HR1.out 2 2 (by omega))
    have RD := hide (rd_mid HR1.out 4 5 (by omega))
    rw [List.drop_zero] at RA
    obtain ⟨A, hAe⟩ : ∃ A, L.take 2 = A := ⟨_, rfl⟩
    obtain ⟨E, hEe⟩ : ∃ A, (L.drop 2).take 2 = A := ⟨_, rfl⟩
    obtain ⟨D, hDe⟩ : ∃ A, (L.drop 4).take 5 = A := ⟨_, rfl⟩
    rw [hAe] at RA
    rw [hEe] at RE
    rw [hDe] at RD
    rw [hAe, hEe, hDe] at hlt hnd
    rw [hAe] at hA
    rw [hEe] at hE
    rw [hDe] at hD
    clear hAe hEe hDe hcat hL1 hL2 hL3
    obtain ⟨hlt', hnd'⟩ := swap_ok hlt hnd
    obtain ⟨nw, nx, nt, np, e1, e2, e3, e4, e5, e6, hsum, hpos, hmax⟩ := duel_math A E D 5 hA hE hD
    have SD1 : Hid (∀ W, Below w1.heap.size w1 W → Calls Try.prog 17 #[.slice (some ⟨b, off, none⟩) 2 c1, .slice (some ⟨b, off + 2, none⟩) 2 (c1 - 2), .slice (some ⟨b, off + 4, none⟩) 5 (c1 - 4)] W fun e w' => e = .returned (.tuple #[.int .i64 (nw : Nat), .int .i64 (nt : Nat), .int .i64 (np : Nat), .int .i64 0]) ∧ Below W.heap.size W w') := hide (fun W hW => by
      have h := Showdown_ok (some ⟨b, off, none⟩) (some ⟨b, off + 2, none⟩) (some ⟨b, off + 4, none⟩) c1 (c1 - 2) (c1 - 4) 5 A E D hA hE hD (by omega) hlt hnd W (RA.out.mono hW) (RE.out.mono hW) (RD.out.mono hW)
      rw [e1, e2, e3] at h
      exact h)
    have SD2 : Hid (∀ W, Below w1.heap.size w1 W → Calls Try.prog 17 #[.slice (some ⟨b, off + 2, none⟩) 2 (c1 - 2), .slice (some ⟨b, off, none⟩) 2 c1, .slice (some ⟨b, off + 4, none⟩) 5 (c1 - 4)] W fun e w' => e = .returned (.tuple #[.int .i64 (nx : Nat), .int .i64 (nt : Nat), .int .i64 (np : Nat), .int .i64 0]) ∧ Below W.heap.size W w') := hide (fun W hW => by
      have h := Showdown_ok (some ⟨b, off + 2, none⟩) (some ⟨b, off, none⟩) (some ⟨b, off + 4, none⟩) (c1 - 2) c1 (c1 - 4) 5 E A D hE hA hD (by omega) hlt' hnd' W (RE.out.mono hW) (RA.out.mono hW) (RD.out.mono hW)
      rw [e4, e5, e6] at h
      exact h)
    clear hA hE hD hlt hnd hlt' hnd' e1 e2 e3 e4 e5 e6 RA RE RD HR1
    have HC : Hid (Below w1.heap.size w1 w1) := hide (Below.refl _ w1)
    have bpos : ¬ (np : Int) ≤ 0 := by omega
    have bsum : ((nw : Int) + (nx : Int)) + (nt : Int) = (np : Int) := by omega
    go_wp2_with fail
    refine wp_region_held (S := fun W => Below w1.heap.size w1 W) (by kernel_rfl) ?_
    change wpAnyH _ _ _ _ _ _ _ _ (World.drew _)
    have SW : Below w1.heap.size w1 w1.drew := (Below.refl _ w1).drew
    refine wpAnyH_take (i := 0) (v := .slice (some ⟨b, off, none⟩) 9 c1) rfl (by kernel_rfl) (by kernel_rfl) (by kernel_rfl) (fun _ _ _ h => h) (Or.inl ⟨by rfl, ?_⟩) SW ?_
    · intro W _
      go_simp <;> first | (intro hh; exfalso; omega) | (rw [IntKind.wrap_i64]; omega) | rfl
    go_simp
    refine wpAnyH_take (i := 1) (v := .slice (some ⟨b, off, none⟩) 2 c1) rfl (by kernel_rfl) (by kernel_rfl) (by kernel_rfl) (fun _ _ _ h => h) (Or.inl ⟨by rfl, ?_⟩) SW ?_
    · intro W _
      go_simp <;> first | (intro hh; exfalso; omega) | (rw [IntKind.wrap_i64]; omega) | rfl
    go_simp
    refine wpAnyH_take (i := 2) (v := .slice (some ⟨b, off, none⟩) 9 c1) rfl (by kernel_rfl) (by kernel_rfl) (by kernel_rfl) (fun _ _ _ h => h) (Or.inl ⟨by rfl, ?_⟩) SW ?_
    · intro W _
      go_simp <;> first | (intro hh; exfalso; omega) | (rw [IntKind.wrap_i64]; omega) | rfl
    go_simp
    refine wpAnyH_take (i := 3) (v := .slice (some ⟨b, off + 2, none⟩) 2 (c1 - 2)) rfl (by kernel_rfl) (by kernel_rfl) (by kernel_rfl) (fun _ _ _ h => h) (Or.inl ⟨by rfl, ?_⟩) SW ?_
    · intro W _
      go_simp <;> first | (intro hh; exfalso; omega) | (rw [IntKind.wrap_i64]; omega) | rfl
    go_simp
    refine wpAnyH_take (i := 4) (v := .slice (some ⟨b, off, none⟩) 9 c1) rfl (by kernel_rfl) (by kernel_rfl) (by kernel_rfl) (fun _ _ _ h => h) (Or.inl ⟨by rfl, ?_⟩) SW ?_
    · intro W _
      go_simp <;> first | (intro hh; exfalso; omega) | (rw [IntKind.wrap_i64]; omega) | rfl
    go_simp
    refine wpAnyH_take (i := 5) (v := .int .i64 5) rfl (by kernel_rfl) (by kernel_rfl) (by kernel_rfl) (fun _ _ _ h => h) (Or.inl ⟨by rfl, ?_⟩) SW ?_
    · intro W _
      go_simp <;> first | (intro hh; exfalso; omega) | (rw [IntKind.wrap_i64]; omega) | rfl
    go_simp
    refine wpAnyH_take (i := 6) (v := .int .i64 9) rfl (by kernel_rfl) (by kernel_rfl) (by kernel_rfl) (fun _ _ _ h => h) (Or.inl ⟨by rfl, ?_⟩) SW ?_
    · intro W _
      go_simp <;> first | (intro hh; exfalso; omega) | (rw [IntKind.wrap_i64]; omega) | rfl
    go_simp
    refine wpAnyH_take (i := 7) (v := .slice (some ⟨b, off + 4, none⟩) 5 (c1 - 4)) rfl (by kernel_rfl) (by kernel_rfl) (by kernel_rfl) (fun _ _ _ h => h) (Or.inl ⟨by rfl, ?_⟩) SW ?_
    · intro W _
      go_simp <;> first | (intro hh; exfalso; omega) | (rw [IntKind.wrap_i64]; omega) | rfl
    go_simp
    refine wpAnyH_ready (rs := [8]) (by kernel_rfl) (by simp) ?_
    refine AllReadyH.cons rfl (fun K1 hK1 => ?_) AllReadyH.nil
    go_simp
    refine (SD1.out _ (HC.out.trans (SW.mono HC.out.size))).mono ?_
    rintro e w2 ⟨rfl, hBx⟩
    have SW2 := SW.trans (hBx.mono SW.size)
    refine hK1.out _ _ SW2 (fun _ => ?_)
    clear hK1 K1 hBx SW
    have SW := SW2
    clear SW2
    go_simp
    refine wpAnyH_take (i := 9) (v := .tuple #[.int .i64 (nw : Nat), .int .i64 (nt : Nat), .int .i64 (np : Nat), .int .i64 0]) rfl (by kernel_rfl) (by kernel_rfl) (by kernel_rfl) (fun _ _ _ h => h) (Or.inl ⟨by rfl, ?_⟩) SW ?_
    · intro W _
      go_simp <;> first | (intro hh; exfalso; omega) | (rw [IntKind.wrap_i64]; omega) | rfl
    go_simp
    refine wpAnyH_take (i := 10) (v := .int .i64 (nw : Nat)) rfl (by kernel_rfl) (by kernel_rfl) (by kernel_rfl) (fun _ _ _ h => h) (Or.inl ⟨by rfl, ?_⟩) SW ?_
    · intro W _
      go_simp <;> first | (intro hh; exfalso; omega) | (rw [IntKind.wrap_i64]; omega) | rfl
    go_simp
    refine wpAnyH_take (i := 11) (v := .int .i64 (nt : Nat)) rfl (by kernel_rfl) (by kernel_rfl) (by kernel_rfl) (fun _ _ _ h => h) (Or.inl ⟨by rfl, ?_⟩) SW ?_
    · intro W _
      go_simp <;> first | (intro hh; exfalso; omega) | (rw [IntKind.wrap_i64]; omega) | rfl
    go_simp
    refine wpAnyH_take (i := 12) (v := .int .i64 (np : Nat)) rfl (by kernel_rfl) (by kernel_rfl) (by kernel_rfl) (fun _ _ _ h => h) (Or.inl ⟨by rfl, ?_⟩) SW ?_
    · intro W _
      go_simp <;> first | (intro hh; exfalso; omega) | (rw [IntKind.wrap_i64]; omega) | rfl
    go_simp
    refine wpAnyH_take (i := 13) (v := .int .i64 0) rfl (by kernel_rfl) (by kernel_rfl) (by kernel_rfl) (fun _ _ _ h => h) (Or.inl ⟨by rfl, ?_⟩) SW ?_
    · intro W _
      go_simp <;> first | (intro hh; exfalso; omega) | (rw [IntKind.wrap_i64]; omega) | rfl
    go_simp
    refine wpAnyH_take (i := 14) (v := .int .i64 (nw : Nat)) rfl (by kernel_rfl) (by kernel_rfl) (by kernel_rfl) (fun _ _ _ h => h) (Or.inl ⟨by rfl, ?_⟩) SW ?_
    · intro W _
      go_simp <;> first | (intro hh; exfalso; omega) | (rw [IntKind.wrap_i64]; omega) | rfl
    go_simp
    refine wpAnyH_take (i := 15) (v := .int .i64 (nt : Nat)) rfl (by kernel_rfl) (by kernel_rfl) (by kernel_rfl) (fun _ _ _ h => h) (Or.inl ⟨by rfl, ?_⟩) SW ?_
    · intro W _
      go_simp <;> first | (intro hh; exfalso; omega) | (rw [IntKind.wrap_i64]; omega) | rfl
    go_simp
    refine wpAnyH_take (i := 16) (v := .int .i64 (np : Nat)) rfl (by kernel_rfl) (by kernel_rfl) (by kernel_rfl) (fun _ _ _ h => h) (Or.inl ⟨by rfl, ?_⟩) SW ?_
    · intro W _
      go_simp <;> first | (intro hh; exfalso; omega) | (rw [IntKind.wrap_i64]; omega) | rfl
    go_simp
    refine wpAnyH_take (i := 17) (v := .int .i64 0) rfl (by kernel_rfl) (by kernel_rfl) (by kernel_rfl) (fun _ _ _ h => h) (Or.inl ⟨by rfl, ?_⟩) SW ?_
    · intro W _
      go_simp <;> first | (intro hh; exfalso; omega) | (rw [IntKind.wrap_i64]; omega) | rfl
    go_simp
    refine wpAnyH_done (by kernel_rfl) ?_ _
    replace HC := hide (HC.out.trans (SW.mono HC.out.size))
    clear SW SD1
    go_wp2_with fail
    refine wp_region_held (S := fun W => Below w2.heap.size w2 W) (by kernel_rfl) ?_
    change wpAnyH _ _ _ _ _ _ _ _ (World.drew _)
    have SW : Below w2.heap.size w2 w2.drew := (Below.refl _ w2).drew
    refine wpAnyH_take (i := 0) (v := .slice (some ⟨b, off, none⟩) 9 c1) rfl (by kernel_rfl) (by kernel_rfl) (by kernel_rfl) (fun _ _ _ h => h) (Or.inl ⟨by rfl, ?_⟩) SW ?_
    · intro W _
      go_simp <;> first | (intro hh; exfalso; omega) | (rw [IntKind.wrap_i64]; omega) | rfl
    go_simp
    refine wpAnyH_take (i := 1) (v := .slice (some ⟨b, off + 2, none⟩) 2 (c1 - 2)) rfl (by kernel_rfl) (by kernel_rfl) (by kernel_rfl) (fun _ _ _ h => h) (Or.inl ⟨by rfl, ?_⟩) SW ?_
    · intro W _
      go_simp <;> first | (intro hh; exfalso; omega) | (rw [IntKind.wrap_i64]; omega) | rfl
    go_simp
    refine wpAnyH_take (i := 2) (v := .slice (some ⟨b, off, none⟩) 9 c1) rfl (by kernel_rfl) (by kernel_rfl) (by kernel_rfl) (fun _ _ _ h => h) (Or.inl ⟨by rfl, ?_⟩) SW ?_
    · intro W _
      go_simp <;> first | (intro hh; exfalso; omega) | (rw [IntKind.wrap_i64]; omega) | rfl
    go_simp
    refine wpAnyH_take (i := 3) (v := .slice (some ⟨b, off, none⟩) 2 c1) rfl (by kernel_rfl) (by kernel_rfl) (by kernel_rfl) (fun _ _ _ h => h) (Or.inl ⟨by rfl, ?_⟩) SW ?_
    · intro W _
      go_simp <;> first | (intro hh; exfalso; omega) | (rw [IntKind.wrap_i64]; omega) | rfl
    go_simp
    refine wpAnyH_take (i := 4) (v := .slice (some ⟨b, off, none⟩) 9 c1) rfl (by kernel_rfl) (by kernel_rfl) (by kernel_rfl) (fun _ _ _ h => h) (Or.inl ⟨by rfl, ?_⟩) SW ?_
    · intro W _
      go_simp <;> first | (intro hh; exfalso; omega) | (rw [IntKind.wrap_i64]; omega) | rfl
    go_simp
    refine wpAnyH_take (i := 5) (v := .int .i64 5) rfl (by kernel_rfl) (by kernel_rfl) (by kernel_rfl) (fun _ _ _ h => h) (Or.inl ⟨by rfl, ?_⟩) SW ?_
    · intro W _
      go_simp <;> first | (intro hh; exfalso; omega) | (rw [IntKind.wrap_i64]; omega) | rfl
    go_simp
    refine wpAnyH_take (i := 6) (v := .int .i64 9) rfl (by kernel_rfl) (by kernel_rfl) (by kernel_rfl) (fun _ _ _ h => h) (Or.inl ⟨by rfl, ?_⟩) SW ?_
    · intro W _
      go_simp <;> first | (intro hh; exfalso; omega) | (rw [IntKind.wrap_i64]; omega) | rfl
    go_simp
    refine wpAnyH_take (i := 7) (v := .slice (some ⟨b, off + 4, none⟩) 5 (c1 - 4)) rfl (by kernel_rfl) (by kernel_rfl) (by kernel_rfl) (fun _ _ _ h => h) (Or.inl ⟨by rfl, ?_⟩) SW ?_
    · intro W _
      go_simp <;> first | (intro hh; exfalso; omega) | (rw [IntKind.wrap_i64]; omega) | rfl
    go_simp
    refine wpAnyH_ready (rs := [8]) (by kernel_rfl) (by simp) ?_
    refine AllReadyH.cons rfl (fun K1 hK1 => ?_) AllReadyH.nil
    go_simp
    refine (SD2.out _ (HC.out.trans (SW.mono HC.out.size))).mono ?_
    rintro e w3 ⟨rfl, hBx⟩
    have SW2 := SW.trans (hBx.mono SW.size)
    refine hK1.out _ _ SW2 (fun _ => ?_)
    clear hK1 K1 hBx SW
    have SW := SW2
    clear SW2
    go_simp
    refine wpAnyH_take (i := 9) (v := .tuple #[.int .i64 (nx : Nat), .int .i64 (nt : Nat), .int .i64 (np : Nat), .int .i64 0]) rfl (by kernel_rfl) (by kernel_rfl) (by kernel_rfl) (fun _ _ _ h => h) (Or.inl ⟨by rfl, ?_⟩) SW ?_
    · intro W _
      go_simp <;> first | (intro hh; exfalso; omega) | (rw [IntKind.wrap_i64]; omega) | rfl
    go_simp
    refine wpAnyH_take (i := 10) (v := .int .i64 (nx : Nat)) rfl (by kernel_rfl) (by kernel_rfl) (by kernel_rfl) (fun _ _ _ h => h) (Or.inl ⟨by rfl, ?_⟩) SW ?_
    · intro W _
      go_simp <;> first | (intro hh; exfalso; omega) | (rw [IntKind.wrap_i64]; omega) | rfl
    go_simp
    refine wpAnyH_take (i := 11) (v := .int .i64 (nt : Nat)) rfl (by kernel_rfl) (by kernel_rfl) (by kernel_rfl) (fun _ _ _ h => h) (Or.inl ⟨by rfl, ?_⟩) SW ?_
    · intro W _
      go_simp <;> first | (intro hh; exfalso; omega) | (rw [IntKind.wrap_i64]; omega) | rfl
    go_simp
    refine wpAnyH_take (i := 12) (v := .int .i64 (np : Nat)) rfl (by kernel_rfl) (by kernel_rfl) (by kernel_rfl) (fun _ _ _ h => h) (Or.inl ⟨by rfl, ?_⟩) SW ?_
    · intro W _
      go_simp <;> first | (intro hh; exfalso; omega) | (rw [IntKind.wrap_i64]; omega) | rfl
    go_simp
    refine wpAnyH_take (i := 13) (v := .int .i64 0) rfl (by kernel_rfl) (by kernel_rfl) (by kernel_rfl) (fun _ _ _ h => h) (Or.inl ⟨by rfl, ?_⟩) SW ?_
    · intro W _
      go_simp <;> first | (intro hh; exfalso; omega) | (rw [IntKind.wrap_i64]; omega) | rfl
    go_simp
    refine wpAnyH_take (i := 14) (v := .int .i64 (nx : Nat)) rfl (by kernel_rfl) (by kernel_rfl) (by kernel_rfl) (fun _ _ _ h => h) (Or.inl ⟨by rfl, ?_⟩) SW ?_
    · intro W _
      go_simp <;> first | (intro hh; exfalso; omega) | (rw [IntKind.wrap_i64]; omega) | rfl
    go_simp
    refine wpAnyH_take (i := 15) (v := .int .i64 (nt : Nat)) rfl (by kernel_rfl) (by kernel_rfl) (by kernel_rfl) (fun _ _ _ h => h) (Or.inl ⟨by rfl, ?_⟩) SW ?_
    · intro W _
      go_simp <;> first | (intro hh; exfalso; omega) | (rw [IntKind.wrap_i64]; omega) | rfl
    go_simp
    refine wpAnyH_take (i := 16) (v := .int .i64 (np : Nat)) rfl (by kernel_rfl) (by kernel_rfl) (by kernel_rfl) (fun _ _ _ h => h) (Or.inl ⟨by rfl, ?_⟩) SW ?_
    · intro W _
      go_simp <;> first | (intro hh; exfalso; omega) | (rw [IntKind.wrap_i64]; omega) | rfl
    go_simp
    refine wpAnyH_take (i := 17) (v := .int .i64 0) rfl (by kernel_rfl) (by kernel_rfl) (by kernel_rfl) (fun _ _ _ h => h) (Or.inl ⟨by rfl, ?_⟩) SW ?_
    · intro W _
      go_simp <;> first | (intro hh; exfalso; omega) | (rw [IntKind.wrap_i64]; omega) | rfl
    go_simp
    refine wpAnyH_done (by kernel_rfl) ?_ _
    replace HC := hide (HC.out.trans (SW.mono HC.out.size))
    clear SW SD2
    go_wp2_with fail
    refine (Counts_any w3).mono ?_
    rintro e w4 ⟨T, hT, hcnt, rfl, hB4⟩
    have h0 := hcnt 0 (by omega)
    have h1 := hcnt 1 (by omega)
    have h2 := hcnt 2 (by omega)
    have h3 := hcnt 3 (by omega)
    have h4 := hcnt 4 (by omega)
    have h5 := hcnt 5 (by omega)
    have h6 := hcnt 6 (by omega)
    have h7 := hcnt 7 (by omega)
    have h8 := hcnt 8 (by omega)
    have hs := cnt_sum ((comb 5 (List.range 52)).map (pick (List.range 52)))
    rw [← h0, ← h1, ← h2, ← h3, ← h4, ← h5, ← h6, ← h7, ← h8, List.length_map, comb52] at hs
    obtain ⟨t0, t1, t2, t3, t4, t5, t6, t7, t8, rfl⟩ : ∃ t0 t1 t2 t3 t4 t5 t6 t7 t8, T = [t0, t1, t2, t3, t4, t5, t6, t7, t8] := by
      match T, hT with
      | [t0, t1, t2, t3, t4, t5, t6, t7, t8], _ => exact ⟨t0, t1, t2, t3, t4, t5, t6, t7, t8, rfl⟩
    simp only [List.getD, List.getElem?_cons_zero, List.getElem?_cons_succ, Option.getD_some] at hs
    simp only [toI, List.map_cons, List.map_nil]
    clear h0 h1 h2 h3 h4 h5 h6 h7 h8 hcnt hT
    replace HC := hide (HC.out.trans (hB4.mono HC.out.size))
    clear hB4
    have s8 : ((((((((t0 : Int) + t1) + t2) + t3) + t4) + t5) + t6) + t7) + t8 = 2598960 := by omega
    go_wp2_with fail
    refine wp_loop_rounds 10 ?_
    rw [rounds_succ]
    go_wp2
    rw [rounds_succ]
    go_wp2
    rw [rounds_succ]
    go_wp2
    rw [rounds_succ]
    go_wp2
    rw [rounds_succ]
    go_wp2
    rw [rounds_succ]
    go_wp2
    rw [rounds_succ]
    go_wp2
    rw [rounds_succ]
    go_wp2
    rw [rounds_succ]
    go_wp2
    rw [rounds_succ]
    go_wp2
    go_ret
    refine ⟨by simp, HB1.out.trans ((HC.out.alloc HC.out.size _).mono HB1.out.size)⟩

end Go.Proofs.Ytdhacmcdbpojlaa
