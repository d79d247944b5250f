/-
  The least of what is still needed. No conditions beyond those that each theorem bears.
-/
import Derived.Test.YtmboikpcbkiepaaTab2
namespace Go.Proofs.Ytmboikpcbkiepaa
open Go.RowKit Go.Maps

/-- The closure answers right for sides of fewer pips. -/
def Ans (P k f o g : Nat) : Prop := ∀ (m : List Nat), m ∈ Ms → pip m < P → ∀ (w : World), Env w k f o g →
  Calls Try.prog 60 #[sv (sd6 m), .pointer (some ⟨k, 0, none⟩), .pointer (some ⟨f, 0, none⟩), .pointer (some ⟨o, 0, none⟩)] w fun e w' => e = .returned (tv m) ∧ Env w' k f o g ∧ Keeps (fun i => i = g) w w'

attribute [local irreducible] vl lst sd6

set_option maxRecDepth 100000 in
set_option maxHeartbeats 1000000 in
theorem least_any (P k f o g : Nat) (hA : Ans P k f o g) (w : World) (b n : Nat) (c : Int) (hc : c ≤ 900) (X : List Int → Prop) (L : List (List Nat)) (hX : Is X L) (hL : Sub L) (hP : ∀ m, m ∈ L → pip m < P)
    (hS : St w b n c X) (hE : Env w k f o g) (hbg : b ≠ g) :
    Calls Try.prog 62 #[.map (some b), fv k f o] w fun e w' => e = .returned (.int .i64 (lst L : Nat)) ∧ Env w' k f o g ∧ Keeps (fun i => i = g) w w' := by
  have hbl := hS.lt
  have hgl := hE.memo.lt
  have hlk := hE.lts.1
  have hlf := hE.lts.2.1
  have hlo0 := hE.lts.2.2.1
  have HS := hide hS
  have HE := hide hE
  have HA := hide hA
  have HX := hide hX
  have HL := hide hL
  have HP := hide hP
  clear hS hE hA hX hL hP
  go_enter Try.func62, Try.ntmps62
  go_wp2_with (first | (at_range; refine wpList_range_st rfl _ 62 79 rfl Try.underlying62 b n c X rfl HS.out ?_; intro w0 cnt0 hcnt0 hrg0 hb0) | go_in)
  go_frame
  obtain ⟨r, hr⟩ : ∃ r, w.heap.size = r := ⟨_, rfl⟩
  have HE1 := hide (HE.out.below hb0 (Nat.le_refl _))
  rw [hr] at hrg0 hb0 hbl hgl hlk hlf hlo0 ⊢
  have HRG := hide hrg0
  have HK1 : Hid (Keeps (fun i => i = g ∨ r ≤ i) w w0) := hide ((Keeps.of_below hb0).mono (fun k _ h => Or.inr h))
  have HR := hide hr
  clear hb0 hrg0 hr HS HE
  go_loopw [5] (fun v wr => ∃ (l : List Int → Prop) (cnt acc : Nat), v = .int .i64 acc ∧ acc ≤ 9223372036854775807 ∧ Hid (Rg wr b r n c X l cnt) ∧ Hid (∀ m, m ∈ L → ¬ l (sd6 m) → acc ≤ vl m) ∧ Hid (acc = 9223372036854775807 ∨ ∃ m, m ∈ L ∧ acc = vl m) ∧ Hid (Env wr k f o g) ∧ Hid (Keeps (fun i => i = g ∨ r ≤ i) w wr)) (fun _ wr => wr.rangeLeft b r)
  case atStart => exact ⟨X, cnt0, 9223372036854775807, rfl, by omega, HRG, hide (fun m hm hn => absurd ((HX.out _).2 ⟨m, hm, rfl⟩) hn), hide (Or.inl rfl), HE1, HK1⟩
  case round =>
    obtain ⟨l, cnt, acc, rfl, hacc, hrg, hlo, hhi, hE, hK⟩ := hrel
    clear HRG HE1 HK1
    go_wp2_with (first | (at_next; refine wpList_next_st rfl _ rfl b r n c (by omega) X l cnt rfl hrg.out ?_ ?_) | go_in)
    · intro hno
      have HV : Hid (lst L = acc) := hide (lst_eq (fun m hm => hlo.out m hm (hno _)) hhi.out hacc)
      have HKK : Hid (Keeps (fun i => i = g) w wr) := hide (hK.out.mono (fun k hk h => by rcases h with h | h; exact h; have := HR.out; omega))
      go_wp2
      go_ret
      exact ⟨by rw [HV.out]; rfl, hE.out, HKK.out⟩
    · intro s w1 cnt1 hls hgs hrg1 hlt hk1 hs1 hen
      clear hs1
      have hXs := hrg.out.sub s hls
      obtain ⟨m, hmL, hsm⟩ := (HX.out s).1 hXs
      have HSM := hide hsm
      clear hsm
      have hrr := hrg.out.lt
      have hEl := hE.out.lts
      have hrg' : r ≠ g := by omega
      have hkr : k ≠ r ∧ f ≠ r ∧ o ≠ r := by omega
      have hE1 := hE.out.kept hk1 hkr.1 hkr.2.1 hkr.2.2 (fun e => hrg' e.symm)
      have hK1 := hK.out.trans (hk1.mono (fun k _ e => Or.inr (by omega)))
      have hrl := hrg1.lt.1
      have hbl1 := hrg1.st.lt
      have AB := (Below.refl w1.heap.size w1).alloc (Nat.le_refl _) (Obj.cells #[.int .i64 0, .int .i64 0, .int .i64 0, .int .i64 0, .int .i64 0, .int .i64 0, .int .i64 0, .int .i64 0, .int .i64 0, .int .i64 0, .int .i64 0, .int .i64 0, .int .i64 0, .int .i64 0, .int .i64 0, .int .i64 0, .int .i64 0, .int .i64 0, .int .i64 0, .int .i64 0, .int .i64 0, .int .i64 0, .int .i64 0, .int .i64 0, .int .i64 0, .int .i64 0, .int .i64 0, .int .i64 0, .int .i64 0, .int .i64 0, .int .i64 0, .int .i64 0, .int .i64 0, .int .i64 0, .int .i64 0, .int .i64 0, .int .i64 0, .int .i64 0, .int .i64 0, .int .i64 0, .int .i64 0, .int .i64 0, .int .i64 0, .int .i64 0, .int .i64 0, .int .i64 0, .int .i64 0, .int .i64 0, .int .i64 0, .int .i64 0, .int .i64 0, .int .i64 0] 54)
      have hRa := hrg1.kept (Keeps.of_below AB) (by omega) (by omega)
      have hEa := hE1.below AB (Nat.le_refl _)
      have hKa := hK1.trans ((Keeps.of_below AB).mono (fun k _ h => Or.inr (by omega)))
      have HZB := hide (zeros52 w1)
      have hl52 := hide hgs.len
      have HLT := hide hrg.out.left_eq
      clear AB hrg1 hE1 hK1 hk1 hgs hEl hkr
      go_upto_region 5 with (first | (refine wpList_store_sd rfl _ _ rfl w1.heap.size s noS hl52.out noS_length rfl rfl HZB.out ?_; intro w3 hb3 hk3))
      have hR3 := hRa.kept hk3 (by omega) (by omega)
      have hEb := hEa.lts
      have hE1' := hE.out.lts
      have hE3 := hEa.kept hk3 (by omega) (by omega) (by omega) (by omega)
      have hK3 := hKa.trans (hk3.mono (fun k _ e => Or.inr (by omega)))
      have HB3 := hide hb3
      have HC := hide (HA.out m (HL.out m hmL) (HP.out m hmL) w3 hE3)
      rw [← HSM.out] at HC
      have HR3 := hide hR3
      have HK3 := hide hK3
      clear hR3 hE3 hK3 hk3 hRa hEa hKa hb3 hEb hE1' HZB
      go_wp2_with (first | refine wpList_load_sd rfl _ rfl w1.heap.size rfl s hl52.out HB3.out ?_)
      refine HC.out.mono ?_
      rintro e w4 ⟨rfl, hE4, hk4⟩
      have HE4 := hide hE4
      have HR4 := hide (HR3.out.kept hk4 hbg hrg')
      have HK4 := hide (HK3.out.trans (hk4.mono (fun k _ e => Or.inl e)))
      have HL2 := hide HR4.out.left_eq
      have HVL := hide (vl_le (HL.out m hmL))
      have HML := hide hmL
      have HLS := hide hls
      clear hE4 hk4 hmL hls HC HR3 HK3 hXs
      obtain ⟨x, hx⟩ : ∃ x, vl m = x := ⟨_, rfl⟩
      rw [show tv m = .int .i64 (x : Nat) by rw [← hx]]
      have hxl : x ≤ 304679870005248 := by have := HVL.out; omega
      have HXE := hide hx
      clear hx
      have HLO : Hid (∀ y : Nat, y ≤ acc → y ≤ x → ∀ z, z ∈ L → ¬ (l (sd6 z) ∧ sd6 z ≠ s) → y ≤ vl z) := hide (fun y h1 h2 z hz hno => by
        by_cases e : sd6 z = s
        · have : z = m := sd6_inj (e.trans HSM.out)
          rw [this, HXE.out]; exact h2
        · have := hlo.out z hz (fun h => hno ⟨h, e⟩)
          omega)
      by_cases hxa : x < acc
      · have hxa' : (x : Int) < (acc : Int) := by omega
        have hxb' : (x : Int) ≤ (acc : Int) := by omega
        go_wp2_with fail
        exact ⟨⟨_, cnt1, x, rfl, by omega, HR4, hide (HLO.out x (by omega) (Nat.le_refl _)), hide (Or.inr ⟨m, HML.out, HXE.out.symm⟩), HE4, HK4⟩, by rw [HLT.out, HL2.out]; exact hlt⟩
      · have hxa' : ¬ (x : Int) < (acc : Int) := by omega
        have hxb' : (acc : Int) ≤ (x : Int) := by omega
        go_wp2_with fail
        exact ⟨⟨_, cnt1, acc, rfl, by omega, HR4, hide (HLO.out acc (Nat.le_refl _) (by omega)), hhi, HE4, HK4⟩, by rw [HLT.out, HL2.out]; exact hlt⟩

end Go.Proofs.Ytmboikpcbkiepaa
