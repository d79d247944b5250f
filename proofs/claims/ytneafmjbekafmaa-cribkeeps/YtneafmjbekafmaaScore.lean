/-
  What crib.score answers. No conditions beyond those that each theorem bears.
-/
import Derived.Test.YtneafmjbekafmaaPrR
import Derived.Test.YtneafmjbekafmaaFlJ
import Derived.Test.YtneafmjbekafmaaCat
import Derived.Deep.RegionHeld3
namespace Go.Proofs.Ytneafmjbekafmaa
open Go.RowKit Go.Shelf

/-- What a hand and a start card bring. -/
def scN (L : List Nat) (s : Nat) (crib : Bool) : Nat := rkN (L ++ [s]) + flN L s crib + jkN L s

theorem tms_le (L : List Nat) (n : Nat) (h : L.length ≤ n) (r : Nat) : (tms L).getD r 0 ≤ n := by
  by_cases hr : r < 13
  · rw [tms_getD L r hr]
    refine Nat.le_trans List.count_le_length ?_
    rw [List.length_map]; exact h
  · rw [List.getD_eq_getElem?_getD, List.getElem?_eq_none (by rw [tms_length]; omega)]; simp

theorem fl_le (L : List Nat) (s : Nat) (crib : Bool) : flN L s crib ≤ 5 := by
  unfold flN; split <;> (try split) <;> (try split) <;> omega
theorem jk_le (L : List Nat) (s : Nat) : jkN L s ≤ 1 := by
  unfold jkN; split <;> omega

theorem new_cells (W : World) (cs : Array Value) (t : TypeId) (i : Nat) (v : Value) (h : cs[i]? = some v) : (W.alloc (.cells cs t)).cell? ⟨W.heap.size, i, none⟩ = some v := by
  have := World.alloc_heap_new W (.cells cs t)
  simp only [World.cell?, this]
  exact h

/-- Two slices in a row of slices. -/
theorem concat_two (b : Nat) (a1 a2 : Option Addr) (n1 n2 c1 c2 : Nat) (z1 z2 : List Int) (w : World) (h1 : w.cell? ⟨b, 0, none⟩ = some (.slice a1 n1 c1)) (h2 : w.cell? ⟨b, 1, none⟩ = some (.slice a2 n2 c2)) (r1 : Rd w a1 n1 c1 z1) (r2 : Rd w a2 n2 c2 z2) (hn1 : n1 ≤ 1000) (hn2 : n2 ≤ 1000) (hp : 0 < n1 + n2) :
    Calls Try.prog 21 #[.slice (some ⟨b, 0, none⟩) 2 2] w fun e w' => ∃ a' c', e = .returned (.slice a' (n1 + n2) c') ∧ w'.ownsRow w.heap.size 3 1 (.slice a' (n1 + n2) c') (n1 + n2) ((z1 ++ z2).map (Value.int .i64)) ∧ Below w.heap.size w w' := by
  have := concat_any b 2 2 (fun j => if j = 0 then a1 else a2) (fun j => if j = 0 then n1 else n2) (fun j => if j = 0 then c1 else c2) (fun j => if j = 0 then z1 else z2) w (by omega) (by omega) (by omega)
    (fun j hj => by
      obtain rfl | rfl : j = 0 ∨ j = 1 := by omega
      · exact h1
      · exact h2)
    (fun j hj => by
      obtain rfl | rfl : j = 0 ∨ j = 1 := by omega
      · exact r1
      · exact r2)
    (fun j => by split <;> omega) (by simp [tot]; omega)
  simpa [tot, cat] using this

set_option maxRecDepth 100000 in
set_option maxHeartbeats 4000000 in
theorem score_any (a : Option Addr) (c : Nat) (L : List Nat) (h4 : L.length = 4) (hlt : ∀ x ∈ L, x < 52) (s : Nat) (hs : s < 52) (crib : Bool) (w : World) (h : Rd w a 4 c (toI L)) :
    Calls Try.prog 22 #[.slice a 4 c, .int .i64 s, .bool crib] w fun e w' => e = .returned (.int .i64 (scN L s crib)) ∧ Below w.heap.size w w' := by
  have HH := hide h
  have HS : Hid (scN L s crib = fifN (L ++ [s]) + prsL (tms (L ++ [s])) + rowsF (tms (L ++ [s])) 0 1 + flN L s crib + jkN L s) := rfl
  have F5 : (L ++ [s]).length = 5 := by simp [h4]
  have Flt : ∀ x ∈ L ++ [s], x < 52 := by
    intro x hx
    rcases List.mem_append.1 hx with hx | hx
    · exact hlt x hx
    · obtain rfl := List.mem_singleton.1 hx; exact hs
  have FL := hide F5
  have FLT := hide Flt
  have FI : toI (L ++ [s]) = toI L ++ [(s : Int)] := by simp [toI]
  clear F5 Flt h
  have H4 := hide h4
  have HLT := hide hlt
  clear h4 hlt
  go_enter Try.func22, Try.ntmps22
  go_wp2_with fail
  generalize hw1 : w.alloc (Obj.cells #[.int .i64 s] 3) = w1
  generalize hw2 : w1.alloc (Obj.cells #[.slice a 4 c, .slice (some ⟨w.heap.size, 0, none⟩) 1 1] 22) = w2
  have B1 : Below w.heap.size w w1 := by rw [← hw1]; exact (Below.refl _ w).alloc (Nat.le_refl _) _
  have S1 : w1.heap.size = w.heap.size + 1 := by rw [← hw1]; simp
  have B2 : Below w.heap.size w w2 := by rw [← hw2]; exact B1.alloc (by omega) _
  have B12 : Below w1.heap.size w1 w2 := by rw [← hw2]; exact (Below.refl _ w1).alloc (Nat.le_refl _) _
  have R1 : Rd w2 (some ⟨w.heap.size, 0, none⟩) 1 1 [(s : Int)] := by have := one_rd w (s : Int); rw [hw1] at this; exact this.mono B12
  have C0 : w2.cell? ⟨w1.heap.size, 0, none⟩ = some (.slice a 4 c) := by rw [← hw2]; exact new_cells _ _ _ _ _ rfl
  have C1 : w2.cell? ⟨w1.heap.size, 1, none⟩ = some (.slice (some ⟨w.heap.size, 0, none⟩) 1 1) := by rw [← hw2]; exact new_cells _ _ _ _ _ rfl
  have CC := hide (concat_two w1.heap.size a (some ⟨w.heap.size, 0, none⟩) 4 1 c 1 (toI L) [(s : Int)] w2 C0 C1 (HH.out.mono B2) R1 (by omega) (by omega) (by omega))
  rw [← FI, S1] at CC
  have HB2 := hide B2
  clear C0 C1 R1 B2 B12 B1 FI S1
  refine CC.out.mono ?_
  rintro e w3 ⟨a3, c3, rfl, hO3, hB3⟩
  have HR3 := hide (Rd.of_own hO3)
  have HB3 := hide (HB2.out.trans (hB3.mono HB2.out.size))
  clear hO3 hB3 HB2 CC hw1 hw2
  go_wp2_with fail
  refine (timesOf_any a3 5 c3 (L ++ [s]) FLT.out (by omega) w3 HR3.out).mono ?_
  rintro e w4 ⟨rfl, hB4⟩
  have HR4 := hide (HR3.out.mono hB4)
  have HB4 := hide (HB3.out.trans (hB4.mono HB3.out.size))
  clear hB4 HB3 HR3
  have hTL : (tms (L ++ [s])).length = 13 := tms_length _
  have HT5 := hide (tms_le (L ++ [s]) 5 (by rw [FL.out]; exact Nat.le_refl _))
  have hp5 := prsTo_le (tms (L ++ [s])) HT5.out 13
  rw [← hTL, prsTo_all, hTL] at hp5
  generalize hTT : tms (L ++ [s]) = T at *
  clear hTT
  have HTL := hide hTL
  clear hTL
  unfold arrT
  have KB : Blk (w4.alloc (Obj.cells #[.int .i64 0, .int .i64 0, .int .i64 0, .int .i64 0, .int .i64 0, .int .i64 0, .int .i64 0, .int .i64 0, .int .i64 0, .int .i64 0, .int .i64 0, .int .i64 0, .int .i64 0] 58)) w4.heap.size 58 (List.replicate 13 0) := Blk.new w4 58 (List.replicate 13 0) _ rfl
  have hth : (w4.alloc (Obj.cells #[.int .i64 0, .int .i64 0, .int .i64 0, .int .i64 0, .int .i64 0, .int .i64 0, .int .i64 0, .int .i64 0, .int .i64 0, .int .i64 0, .int .i64 0, .int .i64 0, .int .i64 0] 58)).there w4.heap.size 0 T.length := by rw [HTL.out]; exact KB.there
  have hst := store57 (w4.alloc (Obj.cells #[.int .i64 0, .int .i64 0, .int .i64 0, .int .i64 0, .int .i64 0, .int .i64 0, .int .i64 0, .int .i64 0, .int .i64 0, .int .i64 0, .int .i64 0, .int .i64 0, .int .i64 0] 58)) w4.heap.size T hth
  have hil : (ivs T).length = 13 := by rw [ivs_length, HTL.out]
  have HTH := hide hth
  clear hth KB
  go_wp2_with fail
  have RG0 := World.rangeAt_setCells_same (w4.alloc (Obj.cells #[.int .i64 0, .int .i64 0, .int .i64 0, .int .i64 0, .int .i64 0, .int .i64 0, .int .i64 0, .int .i64 0, .int .i64 0, .int .i64 0, .int .i64 0, .int .i64 0, .int .i64 0] 58)) w4.heap.size 0 (ivs T) (by rw [ivs_length]; exact HTH.out)
  have B50 : Below w4.heap.size w4 ((w4.alloc (Obj.cells #[.int .i64 0, .int .i64 0, .int .i64 0, .int .i64 0, .int .i64 0, .int .i64 0, .int .i64 0, .int .i64 0, .int .i64 0, .int .i64 0, .int .i64 0, .int .i64 0, .int .i64 0] 58)).setCells w4.heap.size 0 (ivs T)) := ((Below.refl _ w4).alloc (Nat.le_refl _) _).trans (setCells_below _ _ _ (Nat.le_refl _))
  have S5 : w4.heap.size < ((w4.alloc (Obj.cells #[.int .i64 0, .int .i64 0, .int .i64 0, .int .i64 0, .int .i64 0, .int .i64 0, .int .i64 0, .int .i64 0, .int .i64 0, .int .i64 0, .int .i64 0, .int .i64 0, .int .i64 0] 58)).setCells w4.heap.size 0 (ivs T)).heap.size := by
    have h1 := (setCells_below (B := 0) (w := w4.alloc (Obj.cells #[.int .i64 0, .int .i64 0, .int .i64 0, .int .i64 0, .int .i64 0, .int .i64 0, .int .i64 0, .int .i64 0, .int .i64 0, .int .i64 0, .int .i64 0, .int .i64 0, .int .i64 0] 58)) w4.heap.size 0 (ivs T) (Nat.zero_le _)).size
    rw [World.size_alloc] at h1
    omega
  clear hst HTH hil
  generalize (w4.alloc (Obj.cells #[.int .i64 0, .int .i64 0, .int .i64 0, .int .i64 0, .int .i64 0, .int .i64 0, .int .i64 0, .int .i64 0, .int .i64 0, .int .i64 0, .int .i64 0, .int .i64 0, .int .i64 0] 58)).setCells w4.heap.size 0 (ivs T) = w5 at RG0 B50 S5 ⊢
  have HB5 := hide (HB4.out.trans (B50.mono HB4.out.size))
  have HR5 := hide (HR4.out.mono B50)
  have HH5 := hide (HH.out.mono HB5.out)
  have HRG : Hid (∀ W, Below w5.heap.size w5 W → W.rangeAt w4.heap.size 0 (ivs T)) := hide (fun W hW j v hv => (hW.cell (p := ⟨w4.heap.size, 0 + j, none⟩) S5).trans (RG0 j v hv))
  have hf64 : fifN (L ++ [s]) ≤ 64 := fifTo_le _ 32
  have hfl := fl_le L s crib
  have hjk := jk_le L s
  clear RG0 B50 S5 HB4 HR4
  refine wp_region_held (S := fun W => Below w5.heap.size w5 W) (by kernel_rfl) ?_
  change wpAnyH _ _ _ _ _ _ _ _ (World.drew _)
  have SW : Below w5.heap.size w5 w5.drew := (Below.refl _ w5).drew
  refine wpAnyH_take (i := 0) (v := .slice a3 5 c3) rfl (by kernel_rfl) (by kernel_rfl) (by kernel_rfl) (fun _ _ _ h => h) (Or.inl ⟨by rfl, ?_⟩) SW ?_
  · intro w _
    go_simp
  go_simp
  refine wpAnyH_take (i := 8) (v := .slice a 4 c) rfl (by kernel_rfl) (by kernel_rfl) (by kernel_rfl) (fun _ _ _ h => h) (Or.inl ⟨by rfl, ?_⟩) SW ?_
  · intro w _
    go_simp
  go_simp
  refine wpAnyH_take (i := 9) (v := .int .i64 s) rfl (by kernel_rfl) (by kernel_rfl) (by kernel_rfl) (fun _ _ _ h => h) (Or.inl ⟨by rfl, ?_⟩) SW ?_
  · intro w _
    go_simp
  go_simp
  refine wpAnyH_take (i := 10) (v := .bool crib) rfl (by kernel_rfl) (by kernel_rfl) (by kernel_rfl) (fun _ _ _ h => h) (Or.inl ⟨by rfl, ?_⟩) SW ?_
  · intro w _
    go_simp
  go_simp
  refine wpAnyH_take (i := 13) (v := .slice a 4 c) rfl (by kernel_rfl) (by kernel_rfl) (by kernel_rfl) (fun _ _ _ h => h) (Or.inl ⟨by rfl, ?_⟩) SW ?_
  · intro w _
    go_simp
  go_simp
  refine wpAnyH_take (i := 14) (v := .int .i64 s) rfl (by kernel_rfl) (by kernel_rfl) (by kernel_rfl) (fun _ _ _ h => h) (Or.inl ⟨by rfl, ?_⟩) SW ?_
  · intro w _
    go_simp
  go_simp
  refine wpAnyH_take (i := 2) (v := .agg (ivs T).toArray) rfl (by kernel_rfl) (by kernel_rfl) (by kernel_rfl) (fun _ _ _ h => h) (yieldsIf_load_mid (by rfl) 58 _ rfl w4.heap.size 0 (by rfl) (ivs T) _ (fun W hW => HRG.out W hW) Try.underlying58 rfl (by rw [ivs_length, HTL.out]; exact size57)) SW ?_
  go_simp
  refine wpAnyH_take (i := 5) (v := .agg (ivs T).toArray) rfl (by kernel_rfl) (by kernel_rfl) (by kernel_rfl) (fun _ _ _ h => h) (yieldsIf_load_mid (by rfl) 58 _ rfl w4.heap.size 0 (by rfl) (ivs T) _ (fun W hW => HRG.out W hW) Try.underlying58 rfl (by rw [ivs_length, HTL.out]; exact size57)) SW ?_
  go_simp
  refine wpAnyH_ready (rs := [1]) (by kernel_rfl) (by simp) ?_
  refine AllReadyH.cons rfl (fun K1 hK1 => ?_) AllReadyH.nil
  go_simp
  refine (fifteens_any a3 c3 (L ++ [s]) FL.out FLT.out _ (HR5.out.mono SW)).mono ?_
  rintro e w6 ⟨rfl, hw6⟩
  subst w6
  refine hK1.out _ _ SW (fun SW => ?_)
  clear hK1 K1
  go_simp
  refine wpAnyH_ready (rs := [3]) (by kernel_rfl) (by simp) ?_
  refine AllReadyH.cons rfl (fun K1 hK1 => ?_) AllReadyH.nil
  go_simp
  refine (pairs_any T HTL.out HT5.out _).mono ?_
  rintro e w6 ⟨rfl, hB6⟩
  refine hK1.out _ _ (SW.trans (hB6.mono SW.size)) (fun SW => ?_)
  clear hK1 K1
  go_simp
  generalize fifN (L ++ [s]) = F at *
  generalize prsL T = P at *
  refine wpAnyH_take (i := 4) (v := .int .i64 ((F : Int) + P)) rfl (by kernel_rfl) (by kernel_rfl) (by kernel_rfl) (fun _ _ _ h => h) (Or.inl ⟨by rfl, ?_⟩) SW ?_
  · intro w _
    go_simp
    rw [IntKind.wrap_i64]; omega
  go_simp
  refine wpAnyH_ready (rs := [6]) (by kernel_rfl) (by simp) ?_
  refine AllReadyH.cons rfl (fun K1 hK1 => ?_) AllReadyH.nil
  go_simp
  refine (rows_any T HTL.out HT5.out _).mono ?_
  rintro e w7 ⟨rfl, hr7, hB7⟩
  refine hK1.out _ _ (SW.trans (hB7.mono SW.size)) (fun SW => ?_)
  clear hK1 K1
  go_simp
  generalize rowsF T 0 1 = R at *
  refine wpAnyH_take (i := 7) (v := .int .i64 ((F : Int) + P + R)) rfl (by kernel_rfl) (by kernel_rfl) (by kernel_rfl) (fun _ _ _ h => h) (Or.inl ⟨by rfl, ?_⟩) SW ?_
  · intro w _
    go_simp
    rw [IntKind.wrap_i64]; omega
  go_simp
  refine wpAnyH_ready (rs := [11]) (by kernel_rfl) (by simp) ?_
  refine AllReadyH.cons rfl (fun K1 hK1 => ?_) AllReadyH.nil
  go_simp
  refine (flush_any a c L H4.out HLT.out s hs crib _ (HH5.out.mono SW)).mono ?_
  rintro e w8 ⟨rfl, hB8⟩
  refine hK1.out _ _ (SW.trans (hB8.mono SW.size)) (fun SW => ?_)
  clear hK1 K1
  go_simp
  generalize flN L s crib = G at *
  refine wpAnyH_take (i := 12) (v := .int .i64 ((F : Int) + P + R + G)) rfl (by kernel_rfl) (by kernel_rfl) (by kernel_rfl) (fun _ _ _ h => h) (Or.inl ⟨by rfl, ?_⟩) SW ?_
  · intro w _
    go_simp
    rw [IntKind.wrap_i64]; omega
  go_simp
  refine wpAnyH_ready (rs := [15]) (by kernel_rfl) (by simp) ?_
  refine AllReadyH.cons rfl (fun K1 hK1 => ?_) AllReadyH.nil
  go_simp
  refine (jack_any a c L H4.out HLT.out s hs _ (HH5.out.mono SW)).mono ?_
  rintro e w9 ⟨rfl, hB9⟩
  refine hK1.out _ _ (SW.trans (hB9.mono SW.size)) (fun SW => ?_)
  clear hK1 K1
  go_simp
  generalize jkN L s = J at *
  refine wpAnyH_take (i := 16) (v := .int .i64 ((F : Int) + P + R + G + J)) rfl (by kernel_rfl) (by kernel_rfl) (by kernel_rfl) (fun _ _ _ h => h) (Or.inl ⟨by rfl, ?_⟩) SW ?_
  · intro w _
    go_simp
    rw [IntKind.wrap_i64]; omega
  go_simp
  refine wpAnyH_take (i := 17) (v := .int .i64 ((F : Int) + P + R + G + J)) rfl (by kernel_rfl) (by kernel_rfl) (by kernel_rfl) (fun _ _ _ h => h) (Or.inl ⟨by rfl, ?_⟩) SW ?_
  · intro w _
    go_simp
  go_simp
  refine wpAnyH_done (by kernel_rfl) ?_ _
  have HSW := hide SW
  clear SW
  go_wp2
  go_ret
  exact ⟨ret_intN (by rw [HS.out]; omega), HB5.out.trans (HSW.out.mono HB5.out.size)⟩

end Go.Proofs.Ytneafmjbekafmaa
