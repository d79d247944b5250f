/-
  What may come of a throw, as sets. No conditions beyond those that each theorem bears.
-/
import Derived.Test.YtmboikpcbkiepaaAfter
namespace Go.Proofs.Ytmboikpcbkiepaa
open Go.RowKit Go.Maps

set_option maxRecDepth 100000 in
set_option maxHeartbeats 4000000 in
theorem Copy_any (w : World) (d b n m : Nat) (c : Int) (hc : c ≤ 900) (X Y : List Int → Prop) (hD : St w d m c Y) (hS : St w b n c X) (hdb : d ≠ b) (hn : n ≤ 400000) (hm : m ≤ 400000) :
    Calls Try.prog 54 #[.map (some d), .map (some b)] w fun e w' => e = .returned (.tuple #[]) ∧ St w' d (m + n) c (fun s => Y s ∨ X s) ∧ Keeps (fun k => k = d) w w' := by
  have hbl := hS.lt
  have hdl := hD.lt
  have HS := hide hS
  have HD := hide hD
  clear hS hD
  go_enter Try.func54, Try.ntmps54
  go_wp2_with (first | (at_range; refine wpList_range_st rfl _ 62 79 rfl Try.underlying62 b n c X rfl HS.out ?_; intro w0 cnt0 hcnt0 hrg0 hb0) | go_in)
  go_frame
  obtain ⟨r, hr⟩ : ∃ r, w.heap.size = r := ⟨_, rfl⟩
  rw [hr] at hrg0 hb0 hbl hdl ⊢
  have HD1 := hide (HD.out.below hb0 hdl)
  have HRG := hide hrg0
  have HK1 : Hid (Keeps (fun k => k = d ∨ r ≤ k) w w0) := hide ((Keeps.of_below hb0).mono (fun k _ h => Or.inr h))
  have HR := hide hr
  clear hb0 hrg0 hr HD
  go_loopw [9] (fun _ wr => ∃ (L : List Int → Prop) (cnt m2 : Nat) (Z : List Int → Prop), Hid (Rg wr b r n c X L cnt) ∧ m2 + cnt ≤ m + n ∧ Hid (St wr d m2 c Z) ∧ Hid (∀ s, Z s ↔ (Y s ∨ (X s ∧ ¬ L s))) ∧ Hid (Keeps (fun k => k = d ∨ r ≤ k) w wr)) (fun _ wr => wr.rangeLeft b r)
  case atStart => exact ⟨X, cnt0, m, Y, HRG, by omega, HD1, fun s => ⟨fun h => Or.inl h, fun h => by rcases h with h | ⟨h1, h2⟩; exact h; exact absurd h1 h2⟩, HK1⟩
  case round =>
    obtain ⟨L, cnt, m2, Z, hrg, hmn, hZ, hZe, hK⟩ := hrel
    clear HRG HD1 HK1
    go_wp2_with (first | (at_next; refine wpList_next_st rfl _ rfl b r n c (by omega) X L cnt rfl hrg.out ?_ ?_) | go_in)
    · intro hno
      have HX : Hid (St wr d (m + n) c (fun s => Y s ∨ X s)) := hide ((hZ.out.mono (by omega) (Int.le_refl _)).congr (fun s => by
        rw [hZe.out]
        exact ⟨fun h => by rcases h with h | h; exact Or.inl h; exact Or.inr h.1, fun h => by rcases h with h | h; exact Or.inl h; exact Or.inr ⟨h, hno s⟩⟩))
      have HKK : Hid (Keeps (fun k => k = d) w wr) := hide (hK.out.mono (fun k hk h => by rcases h with h | h; exact h; have := HR.out; omega))
      go_wp2
      exact bodyPost_end (results_none rfl _ _ _) rfl ⟨rfl, HX.out, HKK.out⟩
    · intro s w1 cnt1 hLs hgs hrg1 hlt hk1 hs1 hen
      clear hs1
      have hXs := hrg.out.sub s hLs
      have hrr := hrg.out.lt
      have hZ1 := hZ.out.kept hk1 (by omega)
      have hK1 := hK.out.trans (hk1.mono (fun k _ e => Or.inr (by omega)))
      have hrl := hrg1.lt.1
      have hbl1 := hrg1.st.lt
      have hdl1 := hZ1.lt
      have AB := ((Below.refl w1.heap.size w1).alloc (Nat.le_refl _) (Obj.cells #[.int .i64 0, .int .i64 0, .int .i64 0, .int .i64 0, .int .i64 0, .int .i64 0, .int .i64 0, .int .i64 0, .int .i64 0, .int .i64 0, .int .i64 0, .int .i64 0, .int .i64 0, .int .i64 0, .int .i64 0, .int .i64 0, .int .i64 0, .int .i64 0, .int .i64 0, .int .i64 0, .int .i64 0, .int .i64 0, .int .i64 0, .int .i64 0, .int .i64 0, .int .i64 0, .int .i64 0, .int .i64 0, .int .i64 0, .int .i64 0, .int .i64 0, .int .i64 0, .int .i64 0, .int .i64 0, .int .i64 0, .int .i64 0, .int .i64 0, .int .i64 0, .int .i64 0, .int .i64 0, .int .i64 0, .int .i64 0, .int .i64 0, .int .i64 0, .int .i64 0, .int .i64 0, .int .i64 0, .int .i64 0, .int .i64 0, .int .i64 0, .int .i64 0, .int .i64 0] 54)).alloc (by simp) (Obj.cells #[] 79)
      have hZa := hZ1.below AB hdl1
      have hRa := hrg1.kept (Keeps.of_below AB) (by omega) (by omega)
      have hKa := hK1.trans ((Keeps.of_below AB).mono (fun k _ h => Or.inr (by omega)))
      have HZB := hide ((zeros52 w1).old (Obj.cells #[] 79))
      have hl52 := hide hgs.len
      have HGS := hide hgs
      have HL := hide hrg.out.left_eq
      clear AB hrg1 hZ1 hK1 hk1 hgs
      go_upto_region 3 with (first | (refine wpList_store_sd rfl _ _ rfl w1.heap.size s noS hl52.out noS_length rfl rfl HZB.out ?_; intro w3 hb3 hk3))
      have hZ3 := hZa.kept hk3 (by omega)
      have hR3 := hRa.kept hk3 (by omega) (by omega)
      have hK3 := hKa.trans (hk3.mono (fun k _ e => Or.inr (by omega)))
      have HB3 := hide hb3
      obtain ⟨w2, hrun2, hZ2, hk2⟩ := hZ3.put (s := s) Try.underlying62 (by omega) (by omega) HGS.out
      have HR2 := hide (hR3.kept hk2 (fun e => hdb e.symm) (by omega))
      have HZ2 := hide hZ2
      have HK2 := hide (hK3.trans (hk2.mono (fun k _ e => Or.inl e)))
      have HZE : Hid (∀ x, (Z x ∨ x = s) ↔ (Y x ∨ (X x ∧ ¬ (L x ∧ x ≠ s)))) := hide (fun x => by
        rw [hZe.out]
        constructor
        · rintro ((h | ⟨h1, h2⟩) | rfl)
          · exact Or.inl h
          · exact Or.inr ⟨h1, fun h => h2 h.1⟩
          · exact Or.inr ⟨hXs, fun h => h.2 rfl⟩
        · rintro (h | ⟨h1, h2⟩)
          · exact Or.inl (Or.inl h)
          · by_cases e : x = s
            · exact Or.inr e
            · exact Or.inl (Or.inr ⟨h1, fun h => h2 ⟨h, e⟩⟩))
      have HL2 := hide HR2.out.left_eq
      clear hZ3 hZ2 hk2 hk3 hR3 hK3 hZa hRa hKa hb3
      go_wp2_with (first | refine wpList_load_sd rfl _ rfl w1.heap.size rfl s hl52.out HB3.out ?_)
      exact ⟨⟨_, cnt1, m2 + 1, _, HR2, by omega, HZ2, HZE, HK2⟩, by rw [HL.out, HL2.out]; exact hlt⟩

/-- As many steps as can be made, k at most. -/
def rep (p : Nat) : Nat → (List Int → Prop) → (List Int → Prop)
  | 0, X => X
  | k + 1, X => fun s => ((∃ x, aft X p x) ∧ rep p k (aft X p) s) ∨ ((¬ ∃ x, aft X p x) ∧ X s)

theorem rep_stop {p k : Nat} {X : List Int → Prop} (h : ∀ x, ¬ aft X p x) : ∀ s, rep p k X s ↔ X s := by
  intro s
  cases k with
  | zero => exact Iff.rfl
  | succ k =>
    constructor
    · rintro (⟨⟨x, hx⟩, _⟩ | ⟨_, h2⟩)
      · exact absurd hx (h x)
      · exact h2
    · intro hs
      exact Or.inr ⟨fun ⟨x, hx⟩ => h x hx, hs⟩

theorem rep_go {p k : Nat} {X : List Int → Prop} (h : ¬ ∀ x, ¬ aft X p x) : ∀ s, rep p (k + 1) X s ↔ rep p k (aft X p) s := by
  have h' : ∃ x, aft X p x := Classical.byContradiction fun hn => h fun x hx => hn ⟨x, hx⟩
  intro s
  constructor
  · rintro (⟨_, h2⟩ | ⟨h1, _⟩)
    · exact h2
    · exact absurd h' h1
  · intro hs
    exact Or.inl ⟨h', hs⟩

set_option maxRecDepth 100000 in
set_option maxHeartbeats 4000000 in
theorem repeated_any (w : World) (b : Nat) (c : Int) (hc : c ≤ 800) (X : List Int → Prop) (hS : St w b 1 c X) (p : Nat) (hp : 1 ≤ p ∧ p ≤ 6) :
    Calls Try.prog 52 #[.map (some b), .int .i64 p] w fun e w' => ∃ b', e = .returned (.map (some b')) ∧ St w' b' 400000 (c + 4) (rep p 4 X) ∧ (b' = b ∨ w.heap.size ≤ b') ∧ Below w.heap.size w w' := by
  have HS := hide hS
  clear hS
  go_enter Try.func52, Try.ntmps52
  go_wp2_with fail
  go_loopw [0, 6] (fun v i wr => ∃ (k b2 n : Nat) (Y : List Int → Prop), v = .map (some b2) ∧ i = .int .i64 k ∧ k ≤ 4 ∧ n ≤ 25 ^ k ∧ (b2 = b ∨ w.heap.size ≤ b2) ∧ Hid (St wr b2 n (c + k) Y) ∧ Hid (∀ s, rep p (4 - k) Y s ↔ rep p 4 X s) ∧ Hid (Below w.heap.size w wr)) (fun _ i _ => 4 - (intOf i).toNat)
  case atStart => exact ⟨0, b, 1, X, rfl, rfl, by omega, by simp, Or.inl rfl, hide (HS.out.mono (Nat.le_refl _) (by omega)), fun s => Iff.rfl, Below.refl _ _⟩
  case round =>
    obtain ⟨k, b2, n, Y, rfl, rfl, hk, hn, hb2, hY, hYe, hB⟩ := hrel
    clear HS
    have hpow : 25 ^ k ≤ 25 ^ 4 := Nat.pow_le_pow_right (by omega) hk
    have hn4 : n ≤ 400000 := by omega
    by_cases hlt : k < 4
    · have hlt' : (k : Int) < 4 := by omega
      go_wp2_with fail
      refine (after_any _ b2 n (c + k) (by omega) Y hY.out hn4 p hp).mono ?_
      rintro e w2 ⟨b3, rfl, hZ, hb3, hw⟩
      obtain ⟨q, hql, hrun, hq⟩ := hZ.len Try.underlying62
      have HY2 := hide (hY.out.below hw hY.out.lt)
      have HB2 := hide (hB.out.trans (hw.mono hB.out.size))
      have hb3' : b2 = b ∨ w.heap.size ≤ b2 := hb2
      have hb3'' : w.heap.size ≤ b3 := by have := hB.out.size; omega
      have HZ := hide hZ
      have hrun3 := hrun 3
      clear hw hZ hrun hY hB
      by_cases h0 : q = 0
      · have h0b : ((q : Int) == 0) = true := by simp [h0]
        have h0n : (q == 0) = true := by simp [h0]
        have HNO := hide (hq.1 h0)
        have HX : Hid (St w2 b2 400000 (c + 4) (rep p 4 X)) := hide ((HY2.out.mono hn4 (by omega)).congr (fun s => by
          rw [← hYe.out, rep_stop HNO.out]))
        clear h0 hq
        go_wp2
        go_ret
        exact ⟨b2, rfl, HX.out, hb2, HB2.out⟩
      · have h0b : ((q : Int) == 0) = false := by simp; omega
        have h0n : (q == 0) = false := by simpa using h0
        have HYE : Hid (∀ s, rep p (4 - (k + 1)) (aft Y p) s ↔ rep p 4 X s) := hide (fun s => by
          rw [← hYe.out, show 4 - k = 4 - (k + 1) + 1 by omega]
          exact (rep_go (fun h => h0 (hq.2 h)) s).symm)
        have hpn : 25 * n ≤ 25 ^ (k + 1) := by rw [Nat.pow_succ]; omega
        clear h0 hq
        go_wp2_with fail
        exact ⟨⟨k + 1, b3, 25 * n, _, rfl, by go_num, by omega, hpn, Or.inr hb3'', hide (HZ.out.mono (Nat.le_refl _) (by omega)), HYE, HB2⟩, by simp [intOf]; omega⟩
    · obtain rfl : k = 4 := by omega
      have hlt' : ¬ ((4 : Nat) : Int) < 4 := by omega
      have HX : Hid (St wr b2 400000 (c + 4) (rep p 4 X)) := hide ((hY.out.mono hn4 (by omega)).congr (fun s => by
        rw [← hYe.out]
        exact Iff.rfl))
      go_wp2
      go_ret
      exact ⟨b2, rfl, HX.out, hb2, hB.out⟩

end Go.Proofs.Ytmboikpcbkiepaa
