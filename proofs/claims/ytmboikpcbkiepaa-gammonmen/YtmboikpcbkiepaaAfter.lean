/-
  What one step more brings. No conditions beyond those that each theorem bears.
-/
import Derived.Test.YtmboikpcbkiepaaSet
namespace Go.Proofs.Ytmboikpcbkiepaa
open Go.RowKit Go.Maps

/-- What comes of sides by one step. -/
def aft (X : List Int → Prop) (p : Nat) : List Int → Prop := fun s' => ∃ s f, X s ∧ 1 ≤ f ∧ f ≤ 25 ∧ stp s f p = some s'

theorem zeros52 (w : World) : Blk (w.alloc (Obj.cells #[.int .i64 0, .int .i64 0, .int .i64 0, .int .i64 0, .int .i64 0, .int .i64 0, .int .i64 0, .int .i64 0, .int .i64 0, .int .i64 0, .int .i64 0, .int .i64 0, .int .i64 0, .int .i64 0, .int .i64 0, .int .i64 0, .int .i64 0, .int .i64 0, .int .i64 0, .int .i64 0, .int .i64 0, .int .i64 0, .int .i64 0, .int .i64 0, .int .i64 0, .int .i64 0, .int .i64 0, .int .i64 0, .int .i64 0, .int .i64 0, .int .i64 0, .int .i64 0, .int .i64 0, .int .i64 0, .int .i64 0, .int .i64 0, .int .i64 0, .int .i64 0, .int .i64 0, .int .i64 0, .int .i64 0, .int .i64 0, .int .i64 0, .int .i64 0, .int .i64 0, .int .i64 0, .int .i64 0, .int .i64 0, .int .i64 0, .int .i64 0, .int .i64 0, .int .i64 0] 54)) w.heap.size 54 noS := Blk.new w 54 noS _ rfl

set_option maxRecDepth 100000 in
set_option maxHeartbeats 4000000 in
theorem after_any (w : World) (b n : Nat) (c : Int) (hc : c ≤ 900) (X : List Int → Prop) (hS : St w b n c X) (hn : n ≤ 400000) (p : Nat) (hp : 1 ≤ p ∧ p ≤ 6) :
    Calls Try.prog 53 #[.map (some b), .int .i64 p] w fun e w' => ∃ b', e = .returned (.map (some b')) ∧ St w' b' (25 * n) (c + 1) (aft X p) ∧ w.heap.size ≤ b' ∧ Below w.heap.size w w' := by
  have hmm := @run_makeMap Try.prog
  have hbl := hS.lt
  have HS := hide hS
  have M0 := St.made w (c + 1)
  have B0 : Below w.heap.size w (w.alloc (.map #[] 0)) := (Below.refl _ w).alloc (Nat.le_refl _) _
  have HS0 := hide (hS.below B0 hbl)
  have HM0 := hide M0
  have HB0 := hide B0
  clear hS M0 B0
  go_enter Try.func53, Try.ntmps53
  go_wp2_with (first | (at_range; refine wpList_range_st rfl _ 62 79 rfl Try.underlying62 b n c X rfl HS0.out ?_; intro w0 cnt0 hcnt0 hrg0 hb0) | go_in)
  go_frame
  obtain ⟨nb, hnb⟩ : ∃ nb, w.heap.size = nb := ⟨_, rfl⟩
  have hr0 : (w.alloc (Obj.map #[] 0)).heap.size = nb + 1 := by simp [hnb]
  rw [hr0] at hrg0 hb0 ⊢
  have HNB := hide hnb
  have HM1 : Hid (St w0 nb 0 (c + 1) (fun _ => False)) := hide (by rw [← hnb]; exact HM0.out.below hb0 (by rw [← hr0]; exact HM0.out.lt))
  have HB1 := hide (HB0.out.trans (hb0.mono (by omega)))
  have HRG := hide hrg0
  clear hb0 hrg0 HM0 HB0 HS0 hmm hr0
  rw [hnb]
  clear hnb
  go_loopw [14] (fun _ wr => ∃ (L : List Int → Prop) (cnt m : Nat) (Y : List Int → Prop), Hid (Rg wr b (nb + 1) n c X L cnt) ∧ cnt ≤ n ∧ m + 25 * cnt ≤ 25 * n ∧ Hid (St wr nb m (c + 1) Y) ∧ Hid (∀ s', Y s' ↔ ∃ s f, (X s ∧ ¬ L s) ∧ 1 ≤ f ∧ f ≤ 25 ∧ stp s f p = some s') ∧ Hid (Below w.heap.size w wr)) (fun _ wr => wr.rangeLeft b (nb + 1))
  case atStart => exact ⟨X, cnt0, 0, fun _ => False, HRG, hcnt0, by omega, HM1, fun s' => by simp, HB1⟩
  case round =>
    obtain ⟨L, cnt, m, Y, hrg, hcn, hm, hY, hYe, hB⟩ := hrel
    clear HRG HM1 HB1
    go_wp2_with (first | (at_next; refine wpList_next_st rfl _ rfl b (nb + 1) n c (by omega) X L cnt rfl hrg.out ?_ ?_) | go_in)
    · intro hno
      have HX : Hid (St wr nb (25 * n) (c + 1) (aft X p)) := hide ((hY.out.mono (by omega) (Int.le_refl _)).congr (fun s' => by
        rw [hYe.out]
        unfold aft
        constructor
        · rintro ⟨s, f, h1, h2⟩
          exact ⟨s, f, h1.1, h2⟩
        · rintro ⟨s, f, h1, h2⟩
          exact ⟨s, f, ⟨h1, hno s⟩, h2⟩))
      go_wp2
      go_ret
      exact ⟨nb, rfl, HX.out, by rw [HNB.out]; exact Nat.le_refl _, hB.out⟩
    · intro s w1 cnt1 hLs hgs hrg1 hlt hk1 hs1 hen
      clear hs1
      have hrr := hrg.out.lt
      have hXs := hrg.out.sub s hLs
      have HY1 := hide (hY.out.kept hk1 (by omega))
      have HB1 := hide (hB.out.trans (hk1.below hB.out.size (fun k hk e => by have := HNB.out; omega)))
      have HR1 := hide hrg1
      have HGS := hide hgs
      have hl52 := hide hgs.len
      have hw1s : nb + 1 < w1.heap.size := hrg1.lt.1
      have HR2 := HR1.out.kept (Keeps.of_below ((Below.refl w1.heap.size w1).alloc (Nat.le_refl _) (Obj.cells #[.int .i64 0, .int .i64 0, .int .i64 0, .int .i64 0, .int .i64 0, .int .i64 0, .int .i64 0, .int .i64 0, .int .i64 0, .int .i64 0, .int .i64 0, .int .i64 0, .int .i64 0, .int .i64 0, .int .i64 0, .int .i64 0, .int .i64 0, .int .i64 0, .int .i64 0, .int .i64 0, .int .i64 0, .int .i64 0, .int .i64 0, .int .i64 0, .int .i64 0, .int .i64 0, .int .i64 0, .int .i64 0, .int .i64 0, .int .i64 0, .int .i64 0, .int .i64 0, .int .i64 0, .int .i64 0, .int .i64 0, .int .i64 0, .int .i64 0, .int .i64 0, .int .i64 0, .int .i64 0, .int .i64 0, .int .i64 0, .int .i64 0, .int .i64 0, .int .i64 0, .int .i64 0, .int .i64 0, .int .i64 0, .int .i64 0, .int .i64 0, .int .i64 0, .int .i64 0] 54))) (by have := HR1.out.st.lt; omega) (by omega)
      have HY2 := HY1.out.below ((Below.refl w1.heap.size w1).alloc (Nat.le_refl _) (Obj.cells #[.int .i64 0, .int .i64 0, .int .i64 0, .int .i64 0, .int .i64 0, .int .i64 0, .int .i64 0, .int .i64 0, .int .i64 0, .int .i64 0, .int .i64 0, .int .i64 0, .int .i64 0, .int .i64 0, .int .i64 0, .int .i64 0, .int .i64 0, .int .i64 0, .int .i64 0, .int .i64 0, .int .i64 0, .int .i64 0, .int .i64 0, .int .i64 0, .int .i64 0, .int .i64 0, .int .i64 0, .int .i64 0, .int .i64 0, .int .i64 0, .int .i64 0, .int .i64 0, .int .i64 0, .int .i64 0, .int .i64 0, .int .i64 0, .int .i64 0, .int .i64 0, .int .i64 0, .int .i64 0, .int .i64 0, .int .i64 0, .int .i64 0, .int .i64 0, .int .i64 0, .int .i64 0, .int .i64 0, .int .i64 0, .int .i64 0, .int .i64 0, .int .i64 0, .int .i64 0] 54)) HY1.out.lt
      have HB2 := HB1.out.alloc HB1.out.size (Obj.cells #[.int .i64 0, .int .i64 0, .int .i64 0, .int .i64 0, .int .i64 0, .int .i64 0, .int .i64 0, .int .i64 0, .int .i64 0, .int .i64 0, .int .i64 0, .int .i64 0, .int .i64 0, .int .i64 0, .int .i64 0, .int .i64 0, .int .i64 0, .int .i64 0, .int .i64 0, .int .i64 0, .int .i64 0, .int .i64 0, .int .i64 0, .int .i64 0, .int .i64 0, .int .i64 0, .int .i64 0, .int .i64 0, .int .i64 0, .int .i64 0, .int .i64 0, .int .i64 0, .int .i64 0, .int .i64 0, .int .i64 0, .int .i64 0, .int .i64 0, .int .i64 0, .int .i64 0, .int .i64 0, .int .i64 0, .int .i64 0, .int .i64 0, .int .i64 0, .int .i64 0, .int .i64 0, .int .i64 0, .int .i64 0, .int .i64 0, .int .i64 0, .int .i64 0, .int .i64 0] 54)
      have HZ1 := hide (zeros52 w1)
      have hbs := HR1.out.st.lt
      go_upto_region 5 with (first | (refine wpList_store_sd rfl _ _ rfl w1.heap.size s noS hl52.out noS_length rfl rfl HZ1.out ?_; intro w2 hb2 hk2))
      have HR3 := hide (HR2.kept hk2 (by omega) (by omega))
      have HY3 := hide (HY2.kept hk2 (by omega))
      have HB3 := hide (HB2.trans (hk2.below HB2.size (fun k hk e => by have := HNB.out; omega)))
      have HK3 := hide hb2
      obtain ⟨sb, hsb⟩ : ∃ sb, w1.heap.size = sb := ⟨_, rfl⟩
      rw [hsb] at HK3 hw1s hbs ⊢
      have hbl2 : b < sb := hbs
      clear HR2 HY2 HB2 hb2 hk2 HZ1 hsb hen hk1 hrg1 HR1 HY1 HB1 hgs
      go_wp2_with fail
      go_loopw [7] (fun v wr => ∃ (f m2 : Nat) (Y2 : List Int → Prop), v = .int .i64 f ∧ 1 ≤ f ∧ f ≤ 26 ∧ m2 ≤ m + (f - 1) ∧ Hid (Rg wr b (nb + 1) n c X (fun x => L x ∧ x ≠ s) cnt1) ∧ Hid (Blk wr sb 54 s) ∧ Hid (St wr nb m2 (c + 1) Y2) ∧ Hid (∀ s', Y2 s' ↔ (Y s' ∨ ∃ g, 1 ≤ g ∧ g < f ∧ stp s g p = some s')) ∧ Hid (Below w.heap.size w wr)) (fun v _ => 26 - (intOf v).toNat)
      case atStart => exact ⟨1, m, Y, rfl, by omega, by omega, by omega, HR3, HK3, HY3, fun s' => ⟨fun h => Or.inl h, fun h => by rcases h with h | ⟨g, h1, h2, _⟩; exact h; omega⟩, HB3⟩
      case round =>
        obtain ⟨f, m2, Y2, rfl, hf1, hf26, hm2, hR4, hK4, hY4, hY4e, hB4⟩ := hrel
        clear HR3 HK3 HY3 HB3
        by_cases hf : f ≤ 25
        · have hf' : (f : Int) ≤ 25 := by omega
          go_wp2_with (first | refine wpList_load_sd rfl _ rfl sb rfl s hl52.out hK4.out ?_)
          refine (step_any s hl52.out (fun i hi => by have := HGS.out.bd i hi; omega) f p ⟨hf1, hf⟩ hp _).mono ?_
          rintro e w5 ⟨rfl, hw⟩
          have hR5 := hR4.out.kept (Keeps.of_below hw) (by have := hR4.out.st.lt; omega) (by have := hR4.out.lt.1; omega)
          have hK5 := hK4.out.below hw hK4.out.lt
          have hY5 := hY4.out.below hw hY4.out.lt
          have hB5 := hB4.out.trans (hw.mono hB4.out.size)
          have AB := (Below.refl w5.heap.size w5).alloc (Nat.le_refl _) (Obj.cells #[.int .i64 0, .int .i64 0, .int .i64 0, .int .i64 0, .int .i64 0, .int .i64 0, .int .i64 0, .int .i64 0, .int .i64 0, .int .i64 0, .int .i64 0, .int .i64 0, .int .i64 0, .int .i64 0, .int .i64 0, .int .i64 0, .int .i64 0, .int .i64 0, .int .i64 0, .int .i64 0, .int .i64 0, .int .i64 0, .int .i64 0, .int .i64 0, .int .i64 0, .int .i64 0, .int .i64 0, .int .i64 0, .int .i64 0, .int .i64 0, .int .i64 0, .int .i64 0, .int .i64 0, .int .i64 0, .int .i64 0, .int .i64 0, .int .i64 0, .int .i64 0, .int .i64 0, .int .i64 0, .int .i64 0, .int .i64 0, .int .i64 0, .int .i64 0, .int .i64 0, .int .i64 0, .int .i64 0, .int .i64 0, .int .i64 0, .int .i64 0, .int .i64 0, .int .i64 0] 54)
          have HZ5 := hide (zeros52 w5)
          have hsz5 := hK5.lt
          have hR6 := hR5.kept (Keeps.of_below AB) (by have := hR5.st.lt; omega) (by have := hR5.lt.1; omega)
          have hK6 := hK5.below AB hK5.lt
          have hY6 := hY5.below AB hY5.lt
          have hB6 := hB5.trans (AB.mono hB5.size)
          have hYl := hY5.lt
          have hRl := hR5.lt.1
          have hSl := hR5.st.lt
          clear hw hR4 hK4 hY4 hB4 AB hR5 hK5 hY5 hB5
          cases hst : stp s f p with
          | none =>
            rw [show stpV (none : Option (List Int)) = .tuple #[sv noS, .bool false] from rfl]
            have HYE : Hid (∀ s', Y2 s' ↔ (Y s' ∨ ∃ g, 1 ≤ g ∧ g < f + 1 ∧ stp s g p = some s')) := hide (fun s' => by
              rw [hY4e.out]
              constructor
              · rintro (h | ⟨g, h1, h2, h3⟩)
                · exact Or.inl h
                · exact Or.inr ⟨g, h1, by omega, h3⟩
              · rintro (h | ⟨g, h1, h2, h3⟩)
                · exact Or.inl h
                · by_cases e : g = f
                  · rw [e, hst] at h3; cases h3
                  · exact Or.inr ⟨g, h1, by omega, h3⟩)
            clear hst
            go_wp2_with (first | (refine wpList_store_sd rfl _ _ rfl w5.heap.size noS noS noS_length noS_length rfl rfl HZ5.out ?_; intro w7 hb7 hk7))
            exact ⟨⟨f + 1, m2, Y2, by go_num, by omega, by omega, by omega, hide (hR6.kept hk7 (by omega) (by omega)), hide (hK6.keeps hk7 (by omega)), hide (hY6.kept hk7 (by omega)), HYE, hide (hB6.trans (hk7.below hB6.size (fun k hk e => by have := HNB.out; omega)))⟩, by simp [intOf]; omega⟩
          | some s' =>
            rw [show stpV (some s') = .tuple #[sv s', .bool true] from rfl]
            have hgs' := stp_good HGS.out ⟨hf1, hf⟩ hp.1 hst
            have hl' := hide hgs'.len
            have HGS' := hide hgs'
            have HST := hide hst
            clear hst hgs'
            go_upto_region 9 with (first | (refine wpList_store_sd rfl _ _ rfl w5.heap.size s' noS hl'.out noS_length rfl rfl HZ5.out ?_; intro w7 hb7 hk7))
            have hR7 := hR6.kept hk7 (by omega) (by omega)
            have hK7 := hK6.keeps hk7 (by omega)
            have hY7 := hY6.kept hk7 (by omega)
            have hB7 := hB6.trans (hk7.below hB6.size (fun k hk e => by have := HNB.out; omega))
            obtain ⟨w8, hrun8, hY8, hk8⟩ := hY7.put (s := s') Try.underlying62 (by omega) (by omega) HGS'.out
            have HR8 := hide (hR7.kept hk8 (by have := HNB.out; omega) (by omega))
            have HK8 := hide (hK7.keeps hk8 (by omega))
            have HB8 := hide (hB7.trans (hk8.below hB7.size (fun k hk e => by have := HNB.out; omega)))
            have HK7 := hide hb7
            have HY8 := hide hY8
            have HYE : Hid (∀ x, (Y2 x ∨ x = s') ↔ (Y x ∨ ∃ g, 1 ≤ g ∧ g < f + 1 ∧ stp s g p = some x)) := hide (fun x => by
              rw [hY4e.out]
              constructor
              · rintro ((h | ⟨g, h1, h2, h3⟩) | rfl)
                · exact Or.inl h
                · exact Or.inr ⟨g, h1, by omega, h3⟩
                · exact Or.inr ⟨f, hf1, by omega, HST.out⟩
              · rintro (h | ⟨g, h1, h2, h3⟩)
                · exact Or.inl (Or.inl h)
                · by_cases e : g = f
                  · rw [e, HST.out] at h3; exact Or.inr (Option.some.inj h3).symm
                  · exact Or.inl (Or.inr ⟨g, h1, by omega, h3⟩))
            clear hR6 hK6 hY6 hB6 hR7 hK7 hY7 hB7 hb7 hk7 hY8 hk8
            go_wp2_with (first | refine wpList_load_sd rfl _ rfl w5.heap.size rfl s' hl'.out HK7.out ?_)
            exact ⟨⟨f + 1, m2 + 1, _, by go_num, by omega, by omega, by omega, HR8, HK8, HY8, HYE, HB8⟩, by simp [intOf]; omega⟩
        · obtain rfl : f = 26 := by omega
          have hf' : ¬ ((26 : Nat) : Int) ≤ 25 := by omega
          have HYE : Hid (∀ s', Y2 s' ↔ ∃ z g, (X z ∧ ¬ (L z ∧ z ≠ s)) ∧ 1 ≤ g ∧ g ≤ 25 ∧ stp z g p = some s') := hide (fun s' => by
            rw [hY4e.out, hYe.out]
            constructor
            · rintro (⟨z, g, h1, h2, h3, h4⟩ | ⟨g, h1, h2, h3⟩)
              · exact ⟨z, g, ⟨h1.1, fun h => h1.2 h.1⟩, h2, h3, h4⟩
              · exact ⟨s, g, ⟨hXs, fun h => h.2 rfl⟩, h1, by omega, h3⟩
            · rintro ⟨z, g, ⟨h0, h1⟩, h2, h3, h4⟩
              by_cases e : z = s
              · subst e; exact Or.inr ⟨g, h2, by omega, h4⟩
              · exact Or.inl ⟨z, g, ⟨h0, fun h => h1 ⟨h, e⟩⟩, h2, h3, h4⟩)
          have HL := hide (hrg.out.left_eq)
          have HL4 := hide (hR4.out.left_eq)
          go_wp2_with fail
          exact ⟨⟨_, cnt1, m2, Y2, hR4, by omega, by omega, hY4, HYE, hB4⟩, by rw [HL.out, HL4.out]; exact hlt⟩

end Go.Proofs.Ytmboikpcbkiepaa
