/-
  How many throws a side needs in the mean, by a function that calls itself. No conditions beyond those that each theorem bears.
-/
import Derived.Test.YtmboikpcbkiepaaLeast
import Derived.OrdersHeld
import Derived.Deep.RegionHeld3
namespace Go.Proofs.Ytmboikpcbkiepaa
open Go.RowKit Go.Maps

/-- What stays while the throws are gone through. -/
structure Hd (w : World) (k f o g sb : Nat) (s : List Int) (W : World) : Prop where
  env : Env W k f o g
  blk : Blk W sb 54 s
  kp : Keeps (fun i => i = g) w W

theorem Hd.below {w W W' : World} {k f o g sb : Nat} {s : List Int} (h : Hd w k f o g sb s W) (hw : Below W.heap.size W W') : Hd w k f o g sb s W' :=
  ⟨h.env.below hw (Nat.le_refl _), h.blk.below hw h.blk.lt, h.kp.trans ((Keeps.of_below hw).mono (fun i hi e => by omega))⟩

theorem Hd.drew {w W : World} {k f o g sb : Nat} {s : List Int} (h : Hd w k f o g sb s W) : Hd w k f o g sb s W.drew := h.below (Below.refl _ W).drew

theorem Hd.keeps {w W W' : World} {k f o g sb : Nat} {s : List Int} (h : Hd w k f o g sb s W) (hE : Env W' k f o g) (hk : Keeps (fun i => i = g) W W') (hs : sb ≠ g) : Hd w k f o g sb s W' :=
  ⟨hE, h.blk.keeps hk hs, h.kp.trans hk⟩

theorem sumS_step (m : List Nat) (x : Nat) (hx : 1 ≤ x) : sumS m x = sumS m (x - 1) + (lst (endsL m x x) + rowS m x (x - 1)) := by
  obtain ⟨j, rfl⟩ : ∃ j, x = j + 1 := ⟨x - 1, by omega⟩
  rfl

theorem rowS_step (m : List Nat) (x y : Nat) (hy : 1 ≤ y) : rowS m x y = rowS m x (y - 1) + 2 * lst (endsL m x y) := by
  obtain ⟨j, rfl⟩ : ∃ j, y = j + 1 := ⟨y - 1, by omega⟩
  rfl

theorem sumS_zero (m : List Nat) : sumS m 0 = 0 := rfl
theorem rowS_zero (m : List Nat) (x : Nat) : rowS m x 0 = 0 := rfl

theorem bnd (B x y C1 C2 C12 : Nat) (h : B ≤ (x - 1) * C12 + C1 + (y - 1) * C2) (hy : y - 1 ≤ 5) (hx : 1 ≤ x) (hc : C1 + 5 * C2 ≤ C12) : B ≤ (x + 1 - 1) * C12 := by
  have h1 := Nat.mul_le_mul_right C2 hy
  have h2 : (x + 1 - 1) * C12 = (x - 1) * C12 + C12 := by rw [show x + 1 - 1 = (x - 1) + 1 by omega, Nat.add_mul, Nat.one_mul]
  rw [h2]
  omega

attribute [local irreducible] vl lst sd6 endsL sumS rowS one9 endsX

set_option maxRecDepth 100000 in
set_option maxHeartbeats 2000000 in
theorem mean1_any (k f o g : Nat) : ∀ P, Ans P k f o g := by
  intro P
  induction P with
  | zero => intro m _ h; omega
  | succ P ih =>
    intro m hm hp w hE
    obtain ⟨s, hs⟩ : ∃ s, sd6 m = s := ⟨_, rfl⟩
    have hG := Ms_gd hm
    have hoff := off_pip hm
    rw [hs] at hG hoff ⊢
    have hl52 := hide hG.len
    have hel := hE.lts
    obtain ⟨w0, hw0⟩ : ∃ w0, w.alloc (Obj.cells (ivs s).toArray 54) = w0 := ⟨_, rfl⟩
    have K0 : Blk w0 w.heap.size 54 s := by rw [← hw0]; exact Blk.new w 54 s _ rfl
    have B0 : Below w.heap.size w w0 := by rw [← hw0]; exact (Below.refl _ w).alloc (Nat.le_refl _) _
    obtain ⟨sb, hsb⟩ : ∃ sb, w.heap.size = sb := ⟨_, rfl⟩
    have H0 : Hid (Hd w k f o g sb s w0) := hide ⟨hE.below B0 (Nat.le_refl _), by rw [← hsb]; exact K0, (Keeps.of_below B0).mono (fun i hi e => by omega)⟩
    have hsg : sb ≠ g := by omega
    have hsbl : w.heap.size ≤ sb := by omega
    have HLK := hide (fun W (h : Hd w k f o g sb s W) => h.env.memo.look hm)
    have HPU := hide (fun W (h : Hd w k f o g sb s W) => h.env.memo.put hm)
    rw [hs] at HLK HPU
    have HG := hide hG
    have HSB := hide hsb
    have HM := hide hm
    have HSE := hide hs
    clear K0 B0 hE hG hs hel
    by_cases hz : pip m = 0
    · have HV : Hid (vl m = 0) := hide (vl_zero hm hz)
      have hofft : offB s = true := by rw [hoff]; simp [hz]
      have HOF := hide hofft
      clear hm hoff hofft hz hp ih HLK HPU
      go_enter Try.func60, Try.ntmps60
      go_upto_region 1 with fail
      clear hw0 hsb
      go_wp2_with (first | refine wpList_load_sd rfl _ rfl sb rfl s hl52.out H0.out.blk ?_)
      refine (allOff_any s hl52.out _).mono ?_
      rintro e w1 ⟨rfl, hw⟩
      have H1 := hide (H0.out.below hw)
      clear hw H0
      rw [HOF.out]
      go_wp2
      go_ret
      exact ⟨by rw [show tv m = .int .i64 0 by rw [tv, HV.out]; rfl]; rfl, H1.out.env, H1.out.kp⟩
    · have hp0 : 0 < pip m := by omega
      have HV := hide (vl_eq hm hp0)
      have HVB := hide (vl_le hm)
      have hofff : offB s = false := by rw [hoff]; simp [hz]
      have HOF := hide hofff
      have HTB := hide (fun x y hx hy => ends_some (x := x) (y := y) hm hp0 hx hy)
      have HLE : Hid (∀ x y, (1 ≤ x ∧ x ≤ 6) → (1 ≤ y ∧ y ≤ 6) → ∀ (W : World) (b : Nat), b ≠ g → Env W k f o g → St W b 400000 (3 + 4) (endsX s x y) →
          Calls Try.prog 62 #[.map (some b), fv k f o] W fun e w' => e = .returned (.int .i64 (lst (endsL m x y) : Nat)) ∧ Env w' k f o g ∧ Keeps (fun i => i = g) W w') := hide (fun x y hx hy W b hbg hEW hSW => by
        have hI := ends_is hm hx hy
        rw [HSE.out] at hI
        have hle := ends_less hm hp0 hx hy
        exact least_any P k f o g ih W b 400000 (3 + 4) (by omega) _ _ hI.1 hI.2 (fun z hz => by have := hle z hz; omega) hSW hEW hbg)
      clear hm hoff hofff hz hp ih hp0
      go_enter Try.func60, Try.ntmps60
      go_upto_region 1 with fail
      clear hw0 hsb
      go_wp2_with (first | refine wpList_load_sd rfl _ rfl sb rfl s hl52.out H0.out.blk ?_)
      refine (allOff_any s hl52.out _).mono ?_
      rintro e w1 ⟨rfl, hw⟩
      have H1 := hide (H0.out.below hw)
      clear hw H0
      rw [HOF.out]
      have hkn := H1.out.env.known
      rcases HLK.out w1 H1.out with hlk | hlk
      · clear HLK HPU HLE HTB
        go_wp2_with (first | refine wpList_load_sd rfl _ rfl sb rfl s hl52.out H1.out.blk ?_)
        go_ret
        exact ⟨rfl, H1.out.env, H1.out.kp⟩
      · clear HLK
        go_wp2_with (first | refine wpList_load_sd rfl _ rfl sb rfl s hl52.out H1.out.blk ?_)
        clear hlk hkn
        go_loopw [8, 9] (fun u v wr => ∃ A x : Nat, u = .int .i64 A ∧ v = .int .i64 x ∧ 1 ≤ x ∧ x ≤ 7 ∧ A ≤ (x - 1) * 3656158440062976 ∧ Hid (A = sumS m (x - 1)) ∧ Hid (Hd w k f o g sb s wr)) (fun _ v _ => 7 - (intOf v).toNat)
        case atStart => exact ⟨0, 1, rfl, rfl, by omega, by omega, by omega, hide (sumS_zero m).symm, H1⟩
        case round =>
          obtain ⟨A, x, rfl, rfl, hx1, hx7, hAb, hA, HR⟩ := hrel
          clear H1
          by_cases hx : x ≤ 6
          · have hx' : (x : Int) ≤ 6 := by omega
            clear HPU
            go_wp2_with fail
            have SW : Hd w k f o g sb s (World.drew _) := (HR.out).drew
            refine wp_region_held (S := fun W => Hd w k f o g sb s W) (by kernel_rfl) ?_
            change wpAnyH _ _ _ _ _ _ _ _ (World.drew _)
            refine wpAnyH_take (i := 0) (v := .int .i64 A) rfl (by kernel_rfl) (by kernel_rfl) (by kernel_rfl) (fun _ _ _ h => h) (Or.inl ⟨by rfl, ?_⟩) SW ?_
            · intro W _
              go_simp <;> first | done | rfl | (rw [IntKind.wrap_i64]; omega) | (intro hh; exfalso; omega)
            go_simp
            refine wpAnyH_take (i := 1) (v := .agg (ivs s).toArray) rfl (by kernel_rfl) (by kernel_rfl) (by kernel_rfl) (fun _ _ _ h => h) (yieldsIf_load_mid (by rfl) 54 _ rfl sb 0 (by rfl) (ivs s) _ (fun W hW => hW.blk.range) Try.underlying54 rfl (by rw [ivs_length, hl52.out]; exact size54)) SW ?_
            go_simp
            refine wpAnyH_take (i := 2) (v := .int .i64 x) rfl (by kernel_rfl) (by kernel_rfl) (by kernel_rfl) (fun _ _ _ h => h) (Or.inl ⟨by rfl, ?_⟩) SW ?_
            · intro W _
              go_simp <;> first | done | rfl | (rw [IntKind.wrap_i64]; omega) | (intro hh; exfalso; omega)
            go_simp
            refine wpAnyH_take (i := 3) (v := .int .i64 x) rfl (by kernel_rfl) (by kernel_rfl) (by kernel_rfl) (fun _ _ _ h => h) (Or.inl ⟨by rfl, ?_⟩) SW ?_
            · intro W _
              go_simp <;> first | done | rfl | (rw [IntKind.wrap_i64]; omega) | (intro hh; exfalso; omega)
            go_simp
            refine wpAnyH_take (i := 5) (v := fv k f o) rfl (by kernel_rfl) (by kernel_rfl) (by kernel_rfl) (fun _ _ _ h => h) (Or.inl ⟨by rfl, ?_⟩) SW ?_
            · intro W hW
              have hcell := hW.env.self
              go_simp <;> first | done | rfl
            go_simp
            refine wpAnyH_ready (rs := [4]) (by kernel_rfl) (by simp) ?_
            refine AllReadyH.cons rfl (fun K1 hK1 => ?_) AllReadyH.nil
            go_simp
            refine (ends_any _ s 3 HG.out (by omega) x x ⟨hx1, hx⟩ ⟨hx1, hx⟩).mono ?_
            rintro e w2 ⟨b2, rfl, hS2, hb2, hw2⟩
            have hbg2 : b2 ≠ g := by have := SW.env.memo.lt; omega
            have HS2 := hide hS2
            clear hS2
            refine hK1.out _ _ (SW.below hw2) (fun SW => ?_)
            clear hK1 K1
            go_simp
            refine wpAnyH_ready (rs := [6]) (by kernel_rfl) (by simp) ?_
            refine AllReadyH.cons rfl (fun K1 hK1 => ?_) AllReadyH.nil
            go_simp
            refine (HLE.out x x ⟨hx1, hx⟩ ⟨hx1, hx⟩ _ b2 hbg2 SW.env HS2.out).mono ?_
            rintro e w3 ⟨rfl, hE3, hk3⟩
            obtain ⟨t, ht⟩ : ∃ t, lst (endsL m x x) = t := ⟨_, rfl⟩
            rw [ht]
            have HT := hide ht
            have htb : t ≤ 304679870005248 := by rw [← ht]; exact HTB.out x x ⟨hx1, hx⟩ ⟨hx1, hx⟩
            clear ht
            refine hK1.out _ _ (SW.keeps hE3 hk3 hsg) (fun SW => ?_)
            clear hK1 K1
            go_simp
            refine wpAnyH_take (i := 7) (v := .int .i64 ((A : Int) + (t : Int))) rfl (by kernel_rfl) (by kernel_rfl) (by kernel_rfl) (fun _ _ _ h => h) (Or.inl ⟨by rfl, ?_⟩) SW ?_
            · intro W _
              go_simp <;> first | done | rfl | (rw [IntKind.wrap_i64]; omega) | (intro hh; exfalso; omega)
            go_simp
            refine wpAnyH_take (i := 8) (v := .int .i64 ((A : Int) + (t : Int))) rfl (by kernel_rfl) (by kernel_rfl) (by kernel_rfl) (fun _ _ _ h => h) (Or.inl ⟨by rfl, ?_⟩) SW ?_
            · intro W _
              go_simp <;> first | done | rfl | (rw [IntKind.wrap_i64]; omega) | (intro hh; exfalso; omega)
            go_simp
            refine wpAnyH_done (by kernel_rfl) ?_ _
            have HR1 := hide SW
            clear SW HR
            obtain ⟨A1, hA1⟩ : ∃ A1 : Nat, A1 = A + t := ⟨_, rfl⟩
            rw [show (A : Int) + (t : Int) = (A1 : Int) by omega]
            have hA1b : A1 ≤ (x - 1) * 3656158440062976 + 304679870005248 := by omega
            have HA1 : Hid (A1 = sumS m (x - 1) + lst (endsL m x x)) := hide (by rw [← hA.out, HT.out]; exact hA1)
            clear hA1 HT hA hAb htb
            go_wp2_with fail
            go_loopw [8, 10] (fun u v wr => ∃ B y : Nat, u = .int .i64 B ∧ v = .int .i64 y ∧ 1 ≤ y ∧ y ≤ x ∧ B ≤ (x - 1) * 3656158440062976 + 304679870005248 + (y - 1) * 609359740010496 ∧ Hid (B = sumS m (x - 1) + lst (endsL m x x) + rowS m x (y - 1)) ∧ Hid (Hd w k f o g sb s wr)) (fun _ v _ => x - (intOf v).toNat)
            case atStart => exact ⟨A1, 1, rfl, rfl, by omega, hx1, by omega, hide (by rw [HA1.out, rowS_zero]; rfl), HR1⟩
            case round =>
              obtain ⟨B, y, rfl, rfl, hy1, hyx, hBb, hB, HI⟩ := hrel
              clear HR1 HA1 hA1b
              by_cases hy : y < x
              · have hy' : (y : Int) < (x : Int) := by omega
                go_wp2_with fail
                have SW : Hd w k f o g sb s (World.drew _) := (HI.out).drew
                refine wp_region_held (S := fun W => Hd w k f o g sb s W) (by kernel_rfl) ?_
                change wpAnyH _ _ _ _ _ _ _ _ (World.drew _)
                refine wpAnyH_take (i := 0) (v := .int .i64 B) rfl (by kernel_rfl) (by kernel_rfl) (by kernel_rfl) (fun _ _ _ h => h) (Or.inl ⟨by rfl, ?_⟩) SW ?_
                · intro W _
                  go_simp <;> first | done | rfl | (rw [IntKind.wrap_i64]; omega) | (intro hh; exfalso; omega)
                go_simp
                refine wpAnyH_take (i := 1) (v := .agg (ivs s).toArray) rfl (by kernel_rfl) (by kernel_rfl) (by kernel_rfl) (fun _ _ _ h => h) (yieldsIf_load_mid (by rfl) 54 _ rfl sb 0 (by rfl) (ivs s) _ (fun W hW => hW.blk.range) Try.underlying54 rfl (by rw [ivs_length, hl52.out]; exact size54)) SW ?_
                go_simp
                refine wpAnyH_take (i := 2) (v := .int .i64 x) rfl (by kernel_rfl) (by kernel_rfl) (by kernel_rfl) (fun _ _ _ h => h) (Or.inl ⟨by rfl, ?_⟩) SW ?_
                · intro W _
                  go_simp <;> first | done | rfl | (rw [IntKind.wrap_i64]; omega) | (intro hh; exfalso; omega)
                go_simp
                refine wpAnyH_take (i := 3) (v := .int .i64 y) rfl (by kernel_rfl) (by kernel_rfl) (by kernel_rfl) (fun _ _ _ h => h) (Or.inl ⟨by rfl, ?_⟩) SW ?_
                · intro W _
                  go_simp <;> first | done | rfl | (rw [IntKind.wrap_i64]; omega) | (intro hh; exfalso; omega)
                go_simp
                refine wpAnyH_take (i := 5) (v := fv k f o) rfl (by kernel_rfl) (by kernel_rfl) (by kernel_rfl) (fun _ _ _ h => h) (Or.inl ⟨by rfl, ?_⟩) SW ?_
                · intro W hW
                  have hcell := hW.env.self
                  go_simp <;> first | done | rfl
                go_simp
                refine wpAnyH_ready (rs := [4]) (by kernel_rfl) (by simp) ?_
                refine AllReadyH.cons rfl (fun K1 hK1 => ?_) AllReadyH.nil
                go_simp
                refine (ends_any _ s 3 HG.out (by omega) x y ⟨hx1, hx⟩ ⟨hy1, by omega⟩).mono ?_
                rintro e w2 ⟨b2, rfl, hS2, hb2, hw2⟩
                have hbg2 : b2 ≠ g := by have := SW.env.memo.lt; omega
                have HS2 := hide hS2
                clear hS2
                refine hK1.out _ _ (SW.below hw2) (fun SW => ?_)
                clear hK1 K1
                go_simp
                refine wpAnyH_ready (rs := [6]) (by kernel_rfl) (by simp) ?_
                refine AllReadyH.cons rfl (fun K1 hK1 => ?_) AllReadyH.nil
                go_simp
                refine (HLE.out x y ⟨hx1, hx⟩ ⟨hy1, by omega⟩ _ b2 hbg2 SW.env HS2.out).mono ?_
                rintro e w3 ⟨rfl, hE3, hk3⟩
                obtain ⟨t, ht⟩ : ∃ t, lst (endsL m x y) = t := ⟨_, rfl⟩
                rw [ht]
                have HT := hide ht
                have htb : t ≤ 304679870005248 := by rw [← ht]; exact HTB.out x y ⟨hx1, hx⟩ ⟨hy1, by omega⟩
                clear ht
                refine hK1.out _ _ (SW.keeps hE3 hk3 hsg) (fun SW => ?_)
                clear hK1 K1
                go_simp
                refine wpAnyH_take (i := 7) (v := .int .i64 (2 * (t : Int))) rfl (by kernel_rfl) (by kernel_rfl) (by kernel_rfl) (fun _ _ _ h => h) (Or.inl ⟨by rfl, ?_⟩) SW ?_
                · intro W _
                  go_simp <;> first | done | rfl | (rw [IntKind.wrap_i64]; omega) | (intro hh; exfalso; omega)
                go_simp
                refine wpAnyH_take (i := 8) (v := .int .i64 ((B : Int) + 2 * (t : Int))) rfl (by kernel_rfl) (by kernel_rfl) (by kernel_rfl) (fun _ _ _ h => h) (Or.inl ⟨by rfl, ?_⟩) SW ?_
                · intro W _
                  go_simp <;> first | done | rfl | (rw [IntKind.wrap_i64]; omega) | (intro hh; exfalso; omega)
                go_simp
                refine wpAnyH_take (i := 9) (v := .int .i64 ((B : Int) + 2 * (t : Int))) rfl (by kernel_rfl) (by kernel_rfl) (by kernel_rfl) (fun _ _ _ h => h) (Or.inl ⟨by rfl, ?_⟩) SW ?_
                · intro W _
                  go_simp <;> first | done | rfl | (rw [IntKind.wrap_i64]; omega) | (intro hh; exfalso; omega)
                go_simp
                refine wpAnyH_done (by kernel_rfl) ?_ _
                have HR2 := hide SW
                clear SW HI
                obtain ⟨B1, hB1⟩ : ∃ B1 : Nat, B1 = B + 2 * t := ⟨_, rfl⟩
                rw [show (B : Int) + 2 * (t : Int) = (B1 : Int) by omega]
                have hB1b : B1 ≤ (x - 1) * 3656158440062976 + 304679870005248 + (y + 1 - 1) * 609359740010496 := by omega
                have HB1 : Hid (B1 = sumS m (x - 1) + lst (endsL m x x) + rowS m x (y + 1 - 1)) := hide (by
                  rw [show y + 1 - 1 = y by omega, rowS_step m x y hy1, ← Nat.add_assoc, ← hB.out, HT.out]; exact hB1)
                clear hB1 HT hB hBb htb
                go_wp2_with fail
                exact ⟨⟨B1, y + 1, rfl, by congr 1, by omega, by omega, hB1b, HB1, HR2⟩, by simp [intOf]; omega⟩
              · have hy' : ¬ (y : Int) < (x : Int) := by omega
                have HB2 : Hid (B = sumS m (x + 1 - 1)) := hide (by
                  rw [show x + 1 - 1 = x by omega, sumS_step m x hx1, hB.out, show y - 1 = x - 1 by omega]; omega)
                have hBb2 : B ≤ (x + 1 - 1) * 3656158440062976 := bnd B x y 304679870005248 609359740010496 3656158440062976 hBb (by clear hBb; omega) hx1 (by decide)
                clear hB hBb
                go_wp2_with fail
                exact ⟨⟨B, x + 1, rfl, by congr 1, by omega, by omega, hBb2, HB2, HI⟩, by simp [intOf]; omega⟩
          · have hx' : ¬ (x : Int) ≤ 6 := by omega
            have HAS : Hid (A = sumS m 6) := hide (by rw [hA.out, show x - 1 = 6 by omega])
            have hAb2 : A ≤ 21936950640377856 := by omega
            obtain ⟨w5, hrun5, hM5, hk5, hlk5⟩ := HPU.out wr HR.out
            have hkn := HR.out.env.known
            have hon := HR.out.env.one
            obtain ⟨O, hO⟩ : ∃ O, one9 = O := ⟨_, rfl⟩
            rw [hO] at hon
            have hOb : O ≤ 101559956668416 := by rw [← hO]; unfold one9; exact Nat.le_refl _
            obtain ⟨q, hq⟩ : ∃ q, A / 36 = q := ⟨_, rfl⟩
            have hqd : Int.tdiv (A : Int) 36 = (q : Int) := by
              rw [Int.tdiv_eq_ediv_of_nonneg (by omega)]; omega
            have hqb : q ≤ 700000000000000 := by omega
            have hvl : vl m = O + q := by rw [HV.out, hO, ← HAS.out, hq]
            rw [show tv m = .int .i64 ((O : Int) + (q : Int)) by rw [tv, hvl]; rfl] at hrun5 hlk5
            have hE := HR.out.env.lts
            have H5 : Hid (Hd w k f o g sb s w5) := hide ⟨⟨cell_keeps hk5 hE.2.2.2.2.1 HR.out.env.known, cell_keeps hk5 hE.2.2.2.2.2.1 HR.out.env.self, cell_keeps hk5 hE.2.2.2.2.2.2 HR.out.env.one, hM5⟩, HR.out.blk.keeps hk5 hsg, HR.out.kp.trans hk5⟩
            have hkn5 := H5.out.env.known
            have HVE := hide hvl
            clear hA hAb HLE HTB HV HPU hM5 hk5 hE hq hvl hO HAS
            go_wp2_with (first | refine wpList_load_sd rfl _ rfl sb rfl s hl52.out HR.out.blk ?_ | refine wpList_load_sd rfl _ rfl sb rfl s hl52.out H5.out.blk ?_)
            go_ret
            exact ⟨by rw [show tv m = .int .i64 ((O : Int) + (q : Int)) by rw [tv, HVE.out]; rfl]; rfl, H5.out.env, H5.out.kp⟩

end Go.Proofs.Ytmboikpcbkiepaa
