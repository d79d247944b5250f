/-
  The law 'CribShows': every way through it ends with true. No conditions beyond those that each theorem bears.
-/
import Derived.Test.YtneafmjbekafmaaShow
namespace Go.Proofs.Ytneafmjbekafmaa
open Go.RowKit Go.Shelf

set_option maxRecDepth 100000 in
set_option maxHeartbeats 4000000 in
theorem shows_any (a : Option Addr) (n c : Nat) (zs : List Int) (start : Int) (crib : Bool) (w : World) (h : Rd w a n c zs) (hr : n * 8 ≤ 140737488351232) :
    Calls Try.prog 3 #[.slice a n c, .int .i64 start, .bool crib] w fun e w' => e = .returned (.bool true) ∧ Below w.heap.size w w' := by
  have hlen := h.len
  have HH := hide h
  have HL := hide hlen
  clear h hlen
  go_enter Try.func3, Try.ntmps3
  go_wp2_with fail
  refine (ints_any a n c zs w HH.out hr).mono ?_
  rintro e w1 ⟨a1, c1, rfl, hR1, hB1⟩
  have HR1 := hide hR1
  have HB1 := hide hB1
  clear hR1 hB1
  go_wp2_with fail
  refine (Show_any a1 n c1 zs start crib w1 HR1.out).mono ?_
  rintro e w2 ⟨rfl, hB2⟩
  have HB2 := hide (HB1.out.trans (hB2.mono HB1.out.size))
  have HH2 := hide (HH.out.mono HB2.out)
  clear hB2 HB1 HR1
  have HV : Hid (∀ v, shV zs start crib = v → shV zs start crib = v) := fun _ h => h
  obtain ⟨V, hV⟩ : ∃ V, shV zs start crib = V := ⟨_, rfl⟩
  obtain ⟨E, hE⟩ : ∃ E, shE zs start = E := ⟨_, rfl⟩
  rw [hV, hE]
  have HVV := hide hV
  have HEE := hide hE
  clear hV hE HV
  go_wp2_with fail
  refine (ints_own a n c zs w2 HH2.out hr).mono ?_
  rintro e w3 ⟨a3, c3, rfl, hO3, hB3⟩
  have HO3 := hide hO3
  have HB3 := hide hB3
  clear hO3 hB3
  go_wp2_with (at_builtin; refine wpList_append_rd _ rfl (.tmp 20) (.tmp 22) rfl w2.heap.size _ n zs rfl (HO3.out.alloc _) _ 1 1 [start] rfl (one_rd _ _) (by omega) (by have := HB3.out.size; simp; omega) ?_)
  intro v' w4 hO4 hG4
  obtain ⟨a4, c4, hv4⟩ := form_slice hO4
  rw [hv4] at hO4 ⊢
  have hb0 : Below w2.heap.size w2 (w3.alloc (.cells #[.int .i64 start] 3)) := HB3.out.alloc HB3.out.size _
  have hb4 : Below w2.heap.size w2 w4 := hb0.grown hG4 hb0.size (fun j hj => (HO3.out.lt j hj).1)
  have HB4 := hide (HB2.out.trans (hb4.mono HB2.out.size))
  have HR4 : Hid (Rd w4 a4 (n + 1) c4 (zs ++ [start])) := hide (Rd.of_own (by rw [List.map_append]; exact hO4))
  clear hO4 hG4 hb0 hv4 hb4 HO3 HB3 HB2
  by_cases h4 : n = 4
  · subst h4
    have HE2 : Hid (E = mayE (zs ++ [start])) := hide (by rw [← HEE.out, shE, if_pos HL.out])
    go_wp2_with fail
    refine (CardsMay_any a4 5 c4 (zs ++ [start]) w4 HR4.out).mono ?_
    rintro e w5 ⟨rfl, q, hw5⟩
    subst hw5
    rw [← HE2.out]
    by_cases h0 : E = 0
    · have h0' : Hid (mayE (zs ++ [start]) = 0) := hide (HE2.out.symm.trans h0)
      subst h0
      obtain ⟨q1, q2, q3, q4, q5⟩ := may_split h0'.out
      obtain ⟨s, rfl⟩ : ∃ s : Nat, start = s := ⟨start.toNat, by omega⟩
      have hl4 : (natL zs).length = 4 := by simp [natL]; exact HL.out
      have hVs : V = ((shR (natL zs ++ [s]) crib : Nat) : Int) := by
        rw [← HVV.out, shV, if_pos HEE.out, ← score_ref (natL zs) s crib hl4 q1 (by omega) (by simpa using q5)]
        simp
      have e5 : toI (natL zs ++ [s]) = zs ++ [(s : Int)] := by
        rw [toI, List.map_append]
        rw [toI] at q2
        rw [q2]; rfl
      have SO := hide (ShowOf_any a4 c4 (natL zs ++ [s]) (by simp [hl4]) (by
        intro x hx
        rcases List.mem_append.1 hx with hx | hx
        · exact q1 x hx
        · obtain rfl := List.mem_singleton.1 hx; omega) crib (w4.drewN q) (by rw [e5]; exact HR4.out.mono (drewN_below _ _ _)))
      generalize shR (natL zs ++ [s]) crib = Y at *
      subst hVs
      clear q1 q2 q3 q4 q5 hl4 e5 HVV HEE HE2 h0'
      go_wp2_with fail
      refine SO.out.mono ?_
      rintro e w6 ⟨rfl, q6, hw6⟩
      subst hw6
      go_wp2
      go_ret
      exact ⟨rfl, HB4.out.trans (by first | exact drewN_below _ _ _ | exact (drewN_below _ _ _).trans (drewN_below _ _ _))⟩
    · have hVs : V = 0 := by rw [← HVV.out, shV, if_neg (by rw [HEE.out]; exact h0)]
      subst hVs
      have hee : (E == E) = true := by simp
      clear HVV HEE HE2
      go_wp2
      go_ret
      exact ⟨rfl, HB4.out.trans (drewN_below _ _ _)⟩
  · have hne : ((n : Int) == 4) = false := by simp; omega
    have hEs : E = 11 := by rw [← HEE.out, shE, if_neg (by rw [HL.out]; exact h4)]
    have hVs : V = 0 := by rw [← HVV.out, shV, if_neg (by rw [HEE.out]; omega)]
    subst hEs hVs
    clear HVV HEE
    go_wp2
    go_ret
    exact ⟨rfl, HB4.out⟩

end Go.Proofs.Ytneafmjbekafmaa
