/-
  The next place that is sown. No conditions beyond those that each theorem bears.
-/
import Derived.Test.YtmdnoiebodaikaaSml
import Derived.OrdersHeld
import Derived.Deep.RegionHeld3
namespace Go.Proofs.Ytmdnoiebodaikaa
open Go.RowKit

set_option maxHeartbeats 4000000 in
theorem next_any (S : List Int) (hS : S.length = 14) (p t q : Nat) (hp : p ≤ 6) (ht : t ≤ 1) (hq : q < 2 * (p + 1)) (w : World) (b : Nat) (hb : Blk w b 46 (bdL S p t)) :
    Calls Try.prog 44 #[.pointer (some ⟨b, 0, none⟩), .int .i64 q] w fun e w' => e = .returned (.int .i64 (nx p t q : Nat)) ∧ Below w.heap.size w w' := by
  have HK := hide hb
  have hl : Hid ((bdL S p t).length = 16) := hide (bdL_length S p t hS)
  have hlt := hb.lt
  clear hb
  obtain ⟨m, hm⟩ : ∃ m, 2 * (p + 1) = m := ⟨_, rfl⟩
  have hm2 : ¬ (m : Int) = 0 := by omega
  have hm3 : (m : Int) ≤ 14 := by omega
  have hmod : ((q : Int) + 1) % (m : Int) = (((q + 1) % m : Nat) : Int) := by simp
  have hr := Nat.mod_lt (q + 1) (show 0 < m by omega)
  obtain ⟨r, hre⟩ : ∃ r, (q + 1) % m = r := ⟨_, rfl⟩
  have hmod2 : ((r : Int) + 1) % (m : Int) = (((r + 1) % m : Nat) : Int) := by simp
  obtain ⟨r2, hre2⟩ : ∃ r2, (r + 1) % m = r2 := ⟨_, rfl⟩
  have HN : Hid (nx p t q = if r = pl p (1 - t) p then r2 else r) := hide (by unfold nx; rw [hm, hre, hre2])
  rw [hre] at hmod hr
  rw [hre2] at hmod2
  have HM := hide hm
  have HMOD := hide hmod
  have HMOD2 := hide hmod2
  obtain ⟨n, hn⟩ : ∃ n, nx p t q = n := ⟨_, rfl⟩
  rw [hn] at HN ⊢
  clear hn hre hre2 hm hmod hmod2
  by_cases hcase : r = pl p (1 - t) p
  · have HV : Hid (n = r2) := hide (by have := HN.out; rw [if_pos hcase] at this; exact this)
    have HC : Hid (((r : Int) == ((pl p (1 - t) p : Nat) : Int)) = true) := hide (by simp [hcase])
    clear hcase HN
    go_enter Try.func44, Try.ntmps44
    go_wp2_with (refine wpList_load_bd rfl _ rfl b rfl (bdL S p t) hl.out HK.out ?_)
    refine (places_any S hS p t hp _).mono ?_
    rintro e w1 ⟨rfl, hw⟩
    rw [HM.out]
    have B1 := hide hw
    have K1 := hide (HK.out.below hw hlt)
    have hlt1 := K1.out.lt
    clear hw
    go_wp2_with fail
    rw [HMOD.out]
    have SW : Below w1.heap.size w1 w1.drew := (Below.refl _ w1).drew
    refine wp_region_held (S := fun W => Below w1.heap.size w1 W) (by kernel_rfl) ?_
    change wpAnyH _ _ _ _ _ _ _ _ (World.drew _)
    refine wpAnyH_take (i := 0) (v := .int .i64 r) rfl (by kernel_rfl) (by kernel_rfl) (by kernel_rfl) (fun _ _ _ h => h) (Or.inl ⟨by rfl, ?_⟩) SW ?_
    · intro W _
      go_simp <;> first | done | rfl | (rw [IntKind.wrap_i64]; omega) | (intro hh; exfalso; omega)
    go_simp
    refine wpAnyH_take (i := 1) (v := .pointer (some ⟨b, 0, none⟩)) rfl (by kernel_rfl) (by kernel_rfl) (by kernel_rfl) (fun _ _ _ h => h) (Or.inl ⟨by rfl, ?_⟩) SW ?_
    · intro W _
      go_simp <;> first | done | rfl | (rw [IntKind.wrap_i64]; omega) | (intro hh; exfalso; omega)
    go_simp
    refine wpAnyH_take (i := 2) (v := .pointer (some ⟨b, 0, none⟩)) rfl (by kernel_rfl) (by kernel_rfl) (by kernel_rfl) (fun _ _ _ h => h) (Or.inl ⟨by rfl, ?_⟩) SW ?_
    · intro W _
      go_simp <;> first | done | rfl | (rw [IntKind.wrap_i64]; omega) | (intro hh; exfalso; omega)
    go_simp
    refine wpAnyH_take (i := 3) (v := .agg (ivs (bdL S p t)).toArray) rfl (by kernel_rfl) (by kernel_rfl) (by kernel_rfl) (fun _ _ _ h => h) (yieldsIf_load_mid (by rfl) 46 _ rfl b 0 (by rfl) (ivs (bdL S p t)) _ (fun W hW => (K1.out.below hW hlt1).range) Try.underlying46 rfl (by rw [ivs_length, hl.out]; exact size46)) SW ?_
    go_simp
    refine wpAnyH_take (i := 4) (v := .pointer (some ⟨b, 0, none⟩)) rfl (by kernel_rfl) (by kernel_rfl) (by kernel_rfl) (fun _ _ _ h => h) (Or.inl ⟨by rfl, ?_⟩) SW ?_
    · intro W _
      go_simp <;> first | done | rfl | (rw [IntKind.wrap_i64]; omega) | (intro hh; exfalso; omega)
    go_simp
    refine wpAnyH_take (i := 5) (v := .pointer (some ⟨b, 0, none⟩)) rfl (by kernel_rfl) (by kernel_rfl) (by kernel_rfl) (fun _ _ _ h => h) (Or.inl ⟨by rfl, ?_⟩) SW ?_
    · intro W _
      go_simp <;> first | done | rfl | (rw [IntKind.wrap_i64]; omega) | (intro hh; exfalso; omega)
    go_simp
    refine wpAnyH_take (i := 6) (v := .pointer (some ⟨b, 15, none⟩)) rfl (by kernel_rfl) (by kernel_rfl) (by kernel_rfl) (fun _ _ _ h => h) (Or.inl ⟨by rfl, ?_⟩) SW ?_
    · intro W _
      go_simp <;> first | done | rfl | (rw [IntKind.wrap_i64]; omega) | (intro hh; exfalso; omega)
    go_simp
    refine wpAnyH_take (i := 7) (v := .int .i64 t) rfl (by kernel_rfl) (by kernel_rfl) (by kernel_rfl) (fun _ _ _ h => h) (Or.inl ⟨by rfl, ?_⟩) SW ?_
    · intro W hW
      have hcell := (K1.out.below hW hlt1).turn hS
      go_simp <;> first | done | rfl
    go_simp
    refine wpAnyH_ready (rs := [8]) (by kernel_rfl) (by simp) ?_
    refine AllReadyH.cons rfl (fun K1 hK1 => ?_) AllReadyH.nil
    go_simp
    refine (theOther_any t ht _).mono ?_
    rintro e w2 ⟨rfl, hw⟩
    subst w2
    refine hK1.out _ _ SW (fun SW => ?_)
    clear hK1 K1
    go_simp
    refine wpAnyH_ready (rs := [9]) (by kernel_rfl) (by simp) ?_
    refine AllReadyH.cons rfl (fun K1 hK1 => ?_) AllReadyH.nil
    go_simp
    refine (store_any S hS p t (1 - t) hp (by omega) _).mono ?_
    rintro e w2 ⟨rfl, hw⟩
    refine hK1.out _ _ (SW.trans (hw.mono SW.size)) (fun SW => ?_)
    clear hK1 K1
    go_simp
    refine wpAnyH_take (i := 10) (v := .bool ((r : Int) == ((pl p (1 - t) p : Nat) : Int))) rfl (by kernel_rfl) (by kernel_rfl) (by kernel_rfl) (fun _ _ _ h => h) (Or.inl ⟨by rfl, ?_⟩) SW ?_
    · intro W _
      go_simp <;> first | done | rfl | (rw [IntKind.wrap_i64]; omega) | (intro hh; exfalso; omega)
    go_simp
    refine wpAnyH_done (by kernel_rfl) ?_ _
    rw [HC.out]
    have B2 := hide (B1.out.trans (SW.mono B1.out.size))
    have K2 := hide (K1.out.below SW hlt1)
    clear SW
    go_wp2_with (refine wpList_load_bd rfl _ rfl b rfl (bdL S p t) hl.out K2.out ?_)
    refine (places_any S hS p t hp _).mono ?_
    rintro e w3 ⟨rfl, hw⟩
    rw [HM.out]
    have B3 := hide (B2.out.trans (hw.mono B2.out.size))
    clear hw
    go_wp2
    go_ret
    refine ⟨ret_int ?_, B3.out⟩
    rw [HV.out, ← HMOD2.out]
  · have HV : Hid (n = r) := hide (by have := HN.out; rw [if_neg hcase] at this; exact this)
    have HC : Hid (((r : Int) == ((pl p (1 - t) p : Nat) : Int)) = false) := hide (by
      rw [Bool.eq_false_iff]
      intro h
      have := of_decide_eq_true h
      omega)
    clear hcase HN
    go_enter Try.func44, Try.ntmps44
    go_wp2_with (refine wpList_load_bd rfl _ rfl b rfl (bdL S p t) hl.out HK.out ?_)
    refine (places_any S hS p t hp _).mono ?_
    rintro e w1 ⟨rfl, hw⟩
    rw [HM.out]
    have B1 := hide hw
    have K1 := hide (HK.out.below hw hlt)
    have hlt1 := K1.out.lt
    clear hw
    go_wp2_with fail
    rw [HMOD.out]
    have SW : Below w1.heap.size w1 w1.drew := (Below.refl _ w1).drew
    refine wp_region_held (S := fun W => Below w1.heap.size w1 W) (by kernel_rfl) ?_
    change wpAnyH _ _ _ _ _ _ _ _ (World.drew _)
    refine wpAnyH_take (i := 0) (v := .int .i64 r) rfl (by kernel_rfl) (by kernel_rfl) (by kernel_rfl) (fun _ _ _ h => h) (Or.inl ⟨by rfl, ?_⟩) SW ?_
    · intro W _
      go_simp <;> first | done | rfl | (rw [IntKind.wrap_i64]; omega) | (intro hh; exfalso; omega)
    go_simp
    refine wpAnyH_take (i := 1) (v := .pointer (some ⟨b, 0, none⟩)) rfl (by kernel_rfl) (by kernel_rfl) (by kernel_rfl) (fun _ _ _ h => h) (Or.inl ⟨by rfl, ?_⟩) SW ?_
    · intro W _
      go_simp <;> first | done | rfl | (rw [IntKind.wrap_i64]; omega) | (intro hh; exfalso; omega)
    go_simp
    refine wpAnyH_take (i := 2) (v := .pointer (some ⟨b, 0, none⟩)) rfl (by kernel_rfl) (by kernel_rfl) (by kernel_rfl) (fun _ _ _ h => h) (Or.inl ⟨by rfl, ?_⟩) SW ?_
    · intro W _
      go_simp <;> first | done | rfl | (rw [IntKind.wrap_i64]; omega) | (intro hh; exfalso; omega)
    go_simp
    refine wpAnyH_take (i := 3) (v := .agg (ivs (bdL S p t)).toArray) rfl (by kernel_rfl) (by kernel_rfl) (by kernel_rfl) (fun _ _ _ h => h) (yieldsIf_load_mid (by rfl) 46 _ rfl b 0 (by rfl) (ivs (bdL S p t)) _ (fun W hW => (K1.out.below hW hlt1).range) Try.underlying46 rfl (by rw [ivs_length, hl.out]; exact size46)) SW ?_
    go_simp
    refine wpAnyH_take (i := 4) (v := .pointer (some ⟨b, 0, none⟩)) rfl (by kernel_rfl) (by kernel_rfl) (by kernel_rfl) (fun _ _ _ h => h) (Or.inl ⟨by rfl, ?_⟩) SW ?_
    · intro W _
      go_simp <;> first | done | rfl | (rw [IntKind.wrap_i64]; omega) | (intro hh; exfalso; omega)
    go_simp
    refine wpAnyH_take (i := 5) (v := .pointer (some ⟨b, 0, none⟩)) rfl (by kernel_rfl) (by kernel_rfl) (by kernel_rfl) (fun _ _ _ h => h) (Or.inl ⟨by rfl, ?_⟩) SW ?_
    · intro W _
      go_simp <;> first | done | rfl | (rw [IntKind.wrap_i64]; omega) | (intro hh; exfalso; omega)
    go_simp
    refine wpAnyH_take (i := 6) (v := .pointer (some ⟨b, 15, none⟩)) rfl (by kernel_rfl) (by kernel_rfl) (by kernel_rfl) (fun _ _ _ h => h) (Or.inl ⟨by rfl, ?_⟩) SW ?_
    · intro W _
      go_simp <;> first | done | rfl | (rw [IntKind.wrap_i64]; omega) | (intro hh; exfalso; omega)
    go_simp
    refine wpAnyH_take (i := 7) (v := .int .i64 t) rfl (by kernel_rfl) (by kernel_rfl) (by kernel_rfl) (fun _ _ _ h => h) (Or.inl ⟨by rfl, ?_⟩) SW ?_
    · intro W hW
      have hcell := (K1.out.below hW hlt1).turn hS
      go_simp <;> first | done | rfl
    go_simp
    refine wpAnyH_ready (rs := [8]) (by kernel_rfl) (by simp) ?_
    refine AllReadyH.cons rfl (fun K1 hK1 => ?_) AllReadyH.nil
    go_simp
    refine (theOther_any t ht _).mono ?_
    rintro e w2 ⟨rfl, hw⟩
    subst w2
    refine hK1.out _ _ SW (fun SW => ?_)
    clear hK1 K1
    go_simp
    refine wpAnyH_ready (rs := [9]) (by kernel_rfl) (by simp) ?_
    refine AllReadyH.cons rfl (fun K1 hK1 => ?_) AllReadyH.nil
    go_simp
    refine (store_any S hS p t (1 - t) hp (by omega) _).mono ?_
    rintro e w2 ⟨rfl, hw⟩
    refine hK1.out _ _ (SW.trans (hw.mono SW.size)) (fun SW => ?_)
    clear hK1 K1
    go_simp
    refine wpAnyH_take (i := 10) (v := .bool ((r : Int) == ((pl p (1 - t) p : Nat) : Int))) rfl (by kernel_rfl) (by kernel_rfl) (by kernel_rfl) (fun _ _ _ h => h) (Or.inl ⟨by rfl, ?_⟩) SW ?_
    · intro W _
      go_simp <;> first | done | rfl | (rw [IntKind.wrap_i64]; omega) | (intro hh; exfalso; omega)
    go_simp
    refine wpAnyH_done (by kernel_rfl) ?_ _
    rw [HC.out]
    have B2 := hide (B1.out.trans (SW.mono B1.out.size))
    have K2 := hide (K1.out.below SW hlt1)
    clear SW
    go_wp2
    go_ret
    exact ⟨ret_int (by rw [HV.out]), B2.out⟩

end Go.Proofs.Ytmdnoiebodaikaa
