/-
  'HexOne' and 'HexShort', walked. No conditions beyond those that each theorem bears.
-/
import Derived.Test.YtldgikinmmkhiaaDoorHs
import Derived.Test.YtldgikinmmkhiaaDoorGx
import Derived.Laws.OwnMore
namespace Go.Proofs.YtldgikinmmkhiaaDoor
open Go.RowKit Go.Shelf

set_option maxHeartbeats 400000 in
theorem intsK_own (a : Option Addr) (n c : Nat) (zs : List Int) (w : World) (h : Rd w a n c zs) (hr : n * 8 ≤ 140737488351232) :
    Calls Tryd.prog 23 #[.slice a n c] w fun e w' => ∃ a' c', e = .returned (.slice a' n c') ∧ w'.ownsRow w.heap.size 3 1 (.slice a' n c') n (zs.map (Value.int .i64)) ∧ Below w.heap.size w w' := by
  obtain ⟨i0, hi, hz0, hz1, hz2⟩ := info_parts Tryd.info3
  cases a with
  | none =>
    obtain rfl := h.nil rfl
    obtain rfl : n = 0 := by have := h.cap; omega
    go_enter Tryd.func23, Tryd.ntmps23
    go_wp2_with (at_builtin; refine wpList_append_own_none rfl _ _ 22 rfl w.heap.size 3 i0 1 Tryd.underlying22 hi _ 0 [] rfl (World.ownsRow_nil _ _ _ _) rfl ?_)
    go_ret
    have hz : zs = [] := List.eq_nil_of_length_eq_zero h.len
    subst hz
    exact ⟨_, _, rfl, World.ownsRow_nil _ _ _ _, Below.refl _ _⟩
  | some ad =>
    have hcell : ∀ j u, (zs.map (Value.int .i64))[j]? = some u → w.cell? (ad.add j) = some u := by
      intro j u hu
      have hj : j < n := by have := (List.getElem?_eq_some_iff.1 hu).1; simpa [h.len] using this
      obtain ⟨b, off, he, hc⟩ := h.cells (by omega)
      obtain rfl := Option.some.inj he
      rw [Addr.add_lit, hc j hj]
      have hz : j < zs.length := by rw [h.len]; exact hj
      simpa [List.getD, hz] using hu
    have hl : (zs.map (Value.int .i64)).length = n * 1 := by simp [h.len]
    have hone := ints_oneCell .i64 zs
    have hmax : 0 + n ≤ maxLen := by have := h.cap; have := h.max; omega
    have hle : Hid (zs.length = n) := h.len
    go_enter Tryd.func23, Tryd.ntmps23
    go_wp2_with (at_builtin; refine wpList_append_own _ rfl _ _ 22 rfl w.heap.size 3 i0 (.int .i64 0) 1 8 Tryd.underlying22 hi hz0 hz1 hz2 rfl (by decide) _ 0 [] rfl (World.ownsRow_nil _ _ _ _) ad n c (zs.map (Value.int .i64)) rfl hl hcell hone hmax (by omega) (Nat.le_refl _) ?_)
    intro v' w1 hown hgrow _
    have hex : ∃ a' c', v' = .slice a' n c' := by
      rcases hown.2 with ⟨hv, h0⟩ | ⟨g, cap, cur, hv, _⟩
      · exact ⟨none, 0, by rw [hv]; simp; omega⟩
      · exact ⟨_, _, hv⟩
    obtain ⟨a', c', rfl⟩ := hex
    have B : Below w.heap.size w w1 := (Below.refl _ _).grown hgrow (Nat.le_refl _) (fun k hk => by simp [Value.ownBlock] at hk)
    clear hgrow
    have HO := hide hown
    clear hown
    go_wp2
    go_ret
    exact ⟨_, _, rfl, HO.out, B⟩


/-- Signs of which the first ones are raised by one. -/
def incU (L : List Int) (k : Nat) : List Int := (L.take k).map (fun x => x + 1) ++ L.drop k
theorem incU_zero (L : List Int) : incU L 0 = L := by simp [incU]
theorem incU_len (L : List Int) (k : Nat) : (incU L k).length = L.length := by simp [incU]; omega
theorem incU_at {L : List Int} {k : Nat} (hk : k < L.length) : (incU L k).getD k 0 = L.getD k 0 := by
  unfold incU
  have h1 : ((L.take k).map (fun x => x + 1)).length = k := by simp; omega
  simp only [List.getD]
  rw [List.getElem?_append_right (by omega), h1, Nat.sub_self, List.getElem?_drop, Nat.add_zero]
theorem incU_set {L : List Int} {k : Nat} (hk : k < L.length) : (incU L k).set k (L.getD k 0 + 1) = incU L (k + 1) := by
  unfold incU
  have h1 : ((L.take k).map (fun x => x + 1)).length = k := by simp; omega
  rw [List.set_append_right _ _ (by omega), h1, Nat.sub_self, List.drop_eq_getElem_cons hk, List.set_cons_zero, List.take_succ_eq_append_getElem hk, List.map_append, List.append_assoc]
  simp [List.getD, hk]
theorem incU_full {L : List Int} : incU L L.length = L.map (fun x => x + 1) := by simp [incU]

theorem own_stored {w : World} {base g n cap j : Nat} {L : List Int} (x : Int) (h : w.ownsRow base 3 1 (.slice (some ⟨g, 0, none⟩) n cap) n (L.map (Value.int .i64))) : (w.setCell ⟨g, j, none⟩ (.int .i64 x)).ownsRow base 3 1 (.slice (some ⟨g, 0, none⟩) n cap) n ((L.set j x).map (Value.int .i64)) := by
  have := (World.ownsRow.stored h j (.int .i64 x)).1
  rw [List.map_set]
  exact this

theorem own_frozen {w : World} {base g n cap j : Nat} {xs : List Value} (h : w.ownsRow base 3 1 (.slice (some ⟨g, 0, none⟩) n cap) n xs) : w.frozen? ⟨g, j, none⟩ = false := by
  obtain ⟨cur, hc⟩ := own_block h rfl
  simp [World.frozen?, hc]

/-- The board that HexOne makes. -/
def oneZ (R : List Int) (M : Nat) : List Int := (grL R 1 M).map (fun x => x + 1)
theorem oneZ_len (R : List Int) (M : Nat) : (oneZ R M).length = M := by simp [oneZ, grL_len]
theorem oneZ_at (R : List Int) (M q : Nat) (hq : q < M) : (oneZ R M).getD q 0 = 1 ∨ (oneZ R M).getD q 0 = 2 := by
  have h2 : ∀ y : Int, pk y (1 + 1) < 2 := fun y => pk_lt y 2 (by omega)
  unfold oneZ grL
  simp only [List.getD, List.getElem?_map, List.getElem?_range hq, Option.map_some, Option.getD_some]
  split
  · have := h2 (R[q]?.getD 0)
    omega
  · omega

theorem may_of {n : Nat} {Z : List Int} (hn : 1 ≤ n ∧ n ≤ 10) (hl : Z.length = n * n) (hZ : ∀ q, q < n * n → 0 ≤ Z.getD q 0 ∧ Z.getD q 0 ≤ 2) : hMay n n Z = true := by
  rw [hMay_iff]
  refine ⟨rfl, by omega, by omega, by omega, by omega, by rw [hl]; simp, fun z hz => ?_⟩
  obtain ⟨q, hq, e⟩ := List.getElem_of_mem hz
  have := hZ q (by omega)
  simpa [List.getD, hq, e] using this

theorem hF_ok {n m : Nat} {Z : List Int} (h : hMay n n Z = true) (hm : m = 1 ∨ m = 2) : hF n n Z m = 0 := by
  unfold hF
  rw [if_pos h, if_pos]
  unfold isP
  rcases hm with rfl | rfl <;> decide

attribute [local irreducible] grL pk incU oneZ jw jl shr toI

set_option maxRecDepth 100000 in
set_option maxHeartbeats 8000000 in
theorem hexOne_any (x : Int) (hx1 : -9223372036854775808 ≤ x) (hx2 : x ≤ 9223372036854775807) (ra : Option Addr) (rn rc : Nat) (R : List Int) (hRg : ∀ u ∈ R, -9223372036854775808 ≤ u ∧ u ≤ 9223372036854775807) (w : World) (hT : Tab w) (hRR : Rd w ra rn rc R) :
    Calls Tryd.prog 5 #[.int .i64 x, .slice ra rn rc] w fun e w' => e = .returned (.bool true) ∧ Below w.heap.size w w' := by
  have hpl := pk_lt x 7 (by omega)
  have HPK := hide (picked_any x 7 w hx1 hx2 (by omega) (by omega))
  obtain ⟨p0, hp0⟩ : ∃ p0, pk x 7 = p0 := ⟨_, rfl⟩
  rw [hp0] at hpl HPK
  obtain ⟨n, hn⟩ : ∃ n, 1 + p0 = n := ⟨_, rfl⟩
  have hni : (1 : Int) + (p0 : Int) = (n : Int) := by omega
  have hnb : 1 ≤ n ∧ n ≤ 7 := by omega
  have HG := hide (grid_any n n 1 (by omega) (by omega) (by omega) ra rn rc R hRg w hRR)
  obtain ⟨M, hM⟩ : ∃ M, n * n = M := ⟨_, rfl⟩
  have hM49 : M ≤ 49 := by rw [← hM]; exact Nat.mul_le_mul hnb.2 hnb.2
  have hM1 : 1 ≤ M := by rw [← hM]; exact Nat.mul_le_mul hnb.1 hnb.1
  have HMM := hide hM
  rw [hM] at HG
  have HGL := hide (grL_len R 1 M)
  have HB2 : Hid (∀ q, q < M → 0 ≤ (grL R 1 M).getD q 0 ∧ (grL R 1 M).getD q 0 ≤ 1) := hide (fun q hq => by
    have h := oneZ_at R M q hq
    have e : (oneZ R M).getD q 0 = (grL R 1 M).getD q 0 + 1 := by
      unfold oneZ
      have hl : q < (grL R 1 M).length := by rw [grL_len]; exact hq
      simp [List.getD, hl]
    omega)
  have HZE : Hid ((grL R 1 M).map (fun x => x + 1) = oneZ R M) := hide (by rw [oneZ])
  have HZL := hide (oneZ_len R M)
  have HFU := hide (full_one (n := n) (Z := oneZ R M) hnb.1 (fun q hq => oneZ_at R M q (by omega)))
  have HMY := hide (may_of (n := n) (Z := oneZ R M) ⟨hnb.1, by omega⟩ (by rw [oneZ_len]; omega) (fun q hq => by have := oneZ_at R M q (by omega); omega))
  have HT := hide hT
  obtain ⟨L, hL⟩ : ∃ L, grL R 1 M = L := ⟨_, rfl⟩
  rw [hL] at HG HGL HB2 HZE
  obtain ⟨Z, hZ⟩ : ∃ Z, oneZ R M = Z := ⟨_, rfl⟩
  rw [hZ] at HZE HZL HFU HMY
  clear hp0 hn hM hL hZ hT hRR hRg
  go_enter Tryd.func5, Tryd.ntmps5
  go_wp2_with fail
  refine HPK.out.mono ?_
  rintro e wx ⟨rfl, hwx⟩
  subst wx
  go_wp2_with fail
  refine HG.out.mono ?_
  rintro e w1 ⟨ga, gc, rfl, hO, hB1⟩
  obtain ⟨g, c2, hv, -⟩ := own_some hO (by omega)
  simp only [Value.slice.injEq] at hv
  obtain ⟨rfl, -, rfl⟩ := hv
  have hgb := (hO.lt g rfl).1
  have hgl := (hO.lt g rfl).2
  have HO := hide hO
  have HB1 := hide hB1
  have HGB : Hid (w.heap.size ≤ g ∧ g < w1.heap.size) := hide ⟨hgb, hgl⟩
  clear hO hB1 HG HPK hgb hgl
  go_wp2_with fail
  obtain ⟨w2, hw2⟩ : ∃ w2, w1.alloc (.cells (gdA n n (some ⟨g, 0, none⟩) M gc) 24) = w2 := ⟨_, rfl⟩
  obtain ⟨s2, h2, B2⟩ := alloc_facts hw2
  have G2 : Gd w2 w1.heap.size n n (some ⟨g, 0, none⟩) M gc := h2
  have HG2 := hide G2
  have HO2 := hide (own_below HO.out B2)
  have HBB : Hid (Below w.heap.size w w2) := hide (HB1.out.trans (B2.mono HB1.out.size))
  rw [hw2]
  obtain ⟨gb, hgbe⟩ : ∃ gb, w1.heap.size = gb := ⟨_, rfl⟩
  rw [hgbe] at HG2 HGB ⊢
  have HWG : Hid (w.heap.size ≤ gb) := hide (by have := HB1.out.size; omega)
  clear hw2 s2 h2 B2 G2 hgbe HO HB1
  go_loopw [7] (fun v wr => ∃ k : Nat, v = .int .i64 k ∧ k ≤ M ∧ Hid (wr.ownsRow w.heap.size 3 1 (.slice (some ⟨g, 0, none⟩) M gc) M ((incU L k).map (Value.int .i64))) ∧ Hid (Gd wr gb n n (some ⟨g, 0, none⟩) M gc) ∧ Hid (Below w.heap.size w wr)) (fun v _ => M - (intOf v).toNat)
  case atStart => exact ⟨0, rfl, by omega, hide (by rw [incU_zero]; exact HO2.out), HG2, HBB⟩
  case round =>
    obtain ⟨k, rfl, hkM, hO, hG, hB⟩ := hrel
    clear HO2 HG2 HBB
    by_cases hk : k < M
    · have hk' : (k : Int) < (M : Int) := by omega
      have hkl : k < L.length := by rw [HGL.out]; exact hk
      have g2 := hG.out.cells.2.2
      have hb := HB2.out k hk
      have cz : wr.cell? ⟨g, k, none⟩ = some (.int .i64 (L.getD k 0)) := by
        rw [hO.out.cellAt k (by omega), ← incU_at hkl]
        have : k < (incU L k).length := by rw [incU_len]; exact hkl
        simp [List.getD, this]
      have fz := own_frozen (j := k) hO.out
      have HO2 : Hid ((wr.setCell ⟨g, k, none⟩ (.int .i64 (L.getD k 0 + 1))).ownsRow w.heap.size 3 1 (.slice (some ⟨g, 0, none⟩) M gc) M ((incU L (k + 1)).map (Value.int .i64))) := hide (by rw [← incU_set hkl]; exact own_stored _ hO.out)
      have HG2 := hide (hG.out.other (show gb ≠ g by have := HGB.out; omega) k (.int .i64 (L.getD k 0 + 1)))
      have HB3 := hide (hB.out.setCell (p := ⟨g, k, none⟩) HGB.out.1 (.int .i64 (L.getD k 0 + 1)))
      obtain ⟨z, hz⟩ : ∃ z, L.getD k 0 = z := ⟨_, rfl⟩
      rw [hz] at cz hb HO2 HG2 HB3
      clear hz hkl hO hG hB
      go_wp2_with fail
      exact ⟨⟨k + 1, rfl, by omega, HO2, HG2, HB3⟩, by simp only [intOf]; omega⟩
    · obtain rfl : M = k := by omega
      have HR : Hid (Rd wr (some ⟨g, 0, none⟩) M gc Z) := hide (by
        have h := hO.out
        have e : incU L M = Z := by rw [← HZE.out, ← incU_full, HGL.out]
        rw [e] at h
        exact Rd.of_own h)
      have g2 := hG.out.cells.2.2
      have hTr := HT.out.mono hB.out
      have G3 := hG.out
      have HJ := hide (Joined_yes n g 0 M gc Z wr HMY.out ⟨hnb.1, by omega⟩ HMM.out hTr HR.out)
      have HS1 := hide (fun W hb => Shortest_yes n g 0 M gc 1 Z W (hF_ok HMY.out (Or.inl rfl)) ⟨hnb.1, by omega⟩ HMM.out (Or.inl rfl) (hTr.mono hb) (HR.out.mono hb))
      have HS2 := hide (fun W hb => Shortest_yes n g 0 M gc 2 Z W (hF_ok HMY.out (Or.inr rfl)) ⟨hnb.1, by omega⟩ HMM.out (Or.inr rfl) (hTr.mono hb) (HR.out.mono hb))
      have HG3 := hide hG.out
      have HBr := hide hB.out
      obtain ⟨m, hm, hjw, hjl, hs1, hs2⟩ := HFU.out
      obtain ⟨jn, hjn⟩ : ∃ jn, (jl n Z).length = jn := ⟨_, rfl⟩
      obtain ⟨JL, hJL⟩ : ∃ JL, jl n Z = JL := ⟨_, rfl⟩
      rw [hjn] at hjl HJ
      rw [hJL] at HJ
      rw [hjw] at HJ
      have hjn' : ¬ (jn : Int) < (n : Int) := by omega
      clear hjw hjn hJL HFU hO hG hB hTr HR HT HZE HGL HB2 HZL
      go_wp2_with (first | (refine wpList_load_gd rfl (.tmp 6) rfl gb rfl G3 ?_) | fail)
      refine HJ.out.mono ?_
      rintro e w3 ⟨ja, jc, rfl, -, hb3⟩
      have G4 := HG3.out.below hb3 HG3.out.lt
      have HB3 := hide (HBr.out.trans (hb3.mono HBr.out.size))
      have HC1 := hide (HS1.out w3 hb3)
      have HB3' := hide hb3
      have HG4 := hide G4
      clear hb3 G3 HJ HS1 g2
      go_wp2_with (first | (refine wpList_load_gd rfl (.tmp 6) rfl gb rfl G4 ?_) | fail)
      refine HC1.out.mono ?_
      rintro e w4 ⟨rfl, hb4⟩
      have G5 := HG4.out.below hb4 HG4.out.lt
      have HB4 := hide (HB3.out.trans (hb4.mono HB3.out.size))
      have HC2 := hide (HS2.out w4 (HB3'.out.trans (hb4.mono HB3'.out.size)))
      clear hb4 G4 HC1 HS2
      go_wp2_with (first | (refine wpList_load_gd rfl (.tmp 6) rfl gb rfl G5 ?_) | fail)
      refine HC2.out.mono ?_
      rintro e w5 ⟨rfl, hb5⟩
      have HB5 := hide (HB4.out.trans (hb5.mono HB4.out.size))
      clear hb5 G5 HC2
      rcases hm with rfl | rfl
      · rw [hs1, show shr n Z 2 = -1 from hs2]
        go_wp2_with fail
        go_ret
        exact ⟨rfl, HB5.out⟩
      · rw [hs1, show shr n Z 1 = -1 from hs2]
        go_wp2_with fail
        go_ret
        exact ⟨rfl, HB5.out⟩

theorem one_law (x : Int) (ra : Option Addr) (rn rc : Nat) (R : List Int) (w : World) (hT : Tab w) (hx : -9223372036854775808 ≤ x ∧ x ≤ 9223372036854775807) (hR : Rd w ra rn rc R) (_ : rn * 8 ≤ 140737488351232) (hg : ∀ u ∈ R, -9223372036854775808 ≤ u ∧ u ≤ 9223372036854775807) :
    Calls Tryd.prog 5 #[.int .i64 x, .slice ra rn rc] w fun e w' => e = .returned (.bool true) ∧ Below w.heap.size w w' := hexOne_any x hx.1 hx.2 ra rn rc R hg w hT hR

end Go.Proofs.YtldgikinmmkhiaaDoor
