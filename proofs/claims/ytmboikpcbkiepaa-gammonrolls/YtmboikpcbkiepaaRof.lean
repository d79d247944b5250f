/-
  The document's own means, given that its memory tells them. No conditions beyond those that each theorem bears.
-/
import Derived.Test.YtmboikpcbkiepaaKn
namespace Go.Proofs.Ytmboikpcbkiepaa
open Go.RowKit Go.Maps

/-- What is still to be divided by. -/
def fin (d U D : Nat) : Nat × Nat := if d = 2 then dv 40 3 (dv 40 2 U D).1 (dv 40 2 U D).2 else if d = 3 then dv 40 3 U D else (U, D)

theorem fin2 {U D U2 D2 : Nat} (h : dv 40 2 U D = (U2, D2)) : fin 2 U D = fin (2 + 1) U2 D2 := by
  unfold fin
  rw [if_pos rfl, h, if_neg (by omega), if_pos rfl]

theorem fin3 {U D U2 D2 : Nat} (h : dv 40 3 U D = (U2, D2)) : fin 3 U D = fin (3 + 1) U2 D2 := by
  unfold fin
  rw [if_neg (by omega), if_pos rfl, if_neg (by omega), if_neg (by omega), h]

theorem take_more (l : List Int) (k : Nat) (h : k < l.length) : l.take (k + 1) = l.take k ++ [l.getD k 0] := by
  rw [List.take_add_one]
  simp [List.getD, h]

theorem zero_at {m : List Nat} {n k : Nat} (hz : ((m.drop n).all fun x => Nat.beq x 0) = true) (hk : n ≤ k) (hl : k < m.length) : (cs m).getD k 0 = 0 := by
  rw [cs_getD]
  have hmem : m.getD k 0 ∈ m.drop n := by
    have e : m.getD k 0 = (m.drop n)[k - n]'(by simp; omega) := by
      simp [List.getD, show n + (k - n) = k by omega, hl]
    rw [e]
    exact List.getElem_mem _
  have := Nat.eq_of_beq_eq_true (List.all_eq_true.1 hz _ hmem)
  rw [this]
  rfl

theorem dv0 (d a b : Nat) : dv 0 d a b = (a, b) := rfl

def lenOf : Value → Nat
  | .slice _ n _ => n
  | _ => 0

attribute [local irreducible] vl lst sd6 endsL sumS rowS one9 endsX fl rA rB pip Ms v7 dv fin

set_option maxRecDepth 100000 in
set_option maxHeartbeats 2000000 in
theorem RollsOf_pad (hOf : OfAll) (a : Option Addr) (n c : Nat) (m : List Nat) (hm : m ∈ Ms) (hn : n ≤ 6) (hz : ((m.drop n).all fun x => Nat.beq x 0) = true) (w : World) (h : Rd w a n c ((cs m).take n)) :
    Calls Try.prog 20 #[.slice a n c] w fun e w' => e = .returned (.tuple #[.int .i64 (rA m : Nat), .int .i64 (rB m : Nat)]) ∧ Below w.heap.size w w' := by
  have hl6 := (row_facts hm).2.1
  have hlc : (cs m).length = 6 := by rw [cs, List.length_map, hl6]
  have HI := hide (ints_own a n c _ w h (by omega))
  have HZ := hide (fun k (h1 : n ≤ k) (h2 : k < 6) => zero_at hz h1 (show k < m.length by omega))
  have HOF := hide (hOf · m hm)
  have HV := hide (v7_le hm)
  have HF : Hid (fin 2 (v7 m) 78364164096 = (rA m, rB m)) := hide (by have := dv_eq hm; unfold fin; rw [if_pos rfl]; exact this)
  have HLC := hide hlc
  clear h hz hOf hm hl6 hlc
  go_enter Try.func20, Try.ntmps20
  go_wp2_with fail
  refine HI.out.mono ?_
  rintro e w1 ⟨a1, c1, rfl, hown, hb1⟩
  have HO1 := hide hown
  have HB1 := hide hb1
  clear hown hb1 HI
  go_wp2_with fail
  go_loopw [4] (fun v wr => ∃ (k cp : Nat) (ad : Option Addr), v = .slice ad k cp ∧ n ≤ k ∧ k ≤ 6 ∧ Hid (wr.ownsRow w.heap.size 3 1 (.slice ad k cp) k (((cs m).take k).map (Value.int .i64))) ∧ Hid (Below w.heap.size w wr)) (fun v _ => 6 - lenOf v)
  case atStart => exact ⟨n, c1, a1, rfl, Nat.le_refl _, hn, HO1, HB1⟩
  case round =>
    obtain ⟨k, cp, ad, rfl, hnk, hk6, hO, hB⟩ := hrel
    clear HO1 HB1
    by_cases hk : k < 6
    · have hk' : (k : Int) < 6 := by omega
      have hR1 : Rd (wr.alloc (.cells #[.int .i64 0] 3)) (some ⟨wr.heap.size, 0, none⟩) 1 1 [0] := Rd.of_blk (Blk.new wr 3 [0] _ rfl) rfl (by decide)
      have hOa := hO.out.alloc (.cells #[.int .i64 0] 3)
      have hBa := hB.out.alloc hB.out.size (.cells #[.int .i64 0] 3)
      have hsz := hBa.size
      have HTK := hide (take_more (cs m) k (by rw [HLC.out]; exact hk))
      have HZK := hide (HZ.out k hnk hk)
      go_wp2_with (at_builtin; refine wpList_append_new _ rfl _ _ rfl w.heap.size _ k ((cs m).take k) rfl hOa ⟨wr.heap.size, 0, none⟩ 1 [0] rfl hR1 (by omega) hsz ?_)
      intro v' w2 hO2 hg2 _
      have hB2 := hBa.grown hg2 (by omega) (fun j hj => by rcases hO.out.2 with ⟨e, _⟩ | ⟨g, cap, cur, e, hbg, _⟩ <;> rw [e] at hj <;> simp [Value.ownBlock] at hj; omega)
      obtain ⟨ad2, cp2, rfl⟩ : ∃ ad2 cp2, v' = .slice ad2 (k + 1) cp2 := by
        rcases hO2.2 with ⟨_, h0⟩ | ⟨g, cap, cur, e, _⟩
        · omega
        · exact ⟨_, _, e⟩
      have HO2 : Hid (w2.ownsRow w.heap.size 3 1 (.slice ad2 (k + 1) cp2) (k + 1) (((cs m).take (k + 1)).map (Value.int .i64))) := hide (by rw [HTK.out, HZK.out, List.map_append, List.map_take]; exact hO2)
      have HB2 := hide hB2
      clear hO2 hg2 hB2 hR1 hOa hBa hO hB
      go_wp2_with fail
      exact ⟨⟨k + 1, cp2, ad2, rfl, by omega, by omega, HO2, HB2⟩, by simp [lenOf]; omega⟩
    · have hk' : ¬ (k : Int) < 6 := by omega
      have hke : k = 6 := by omega
      subst hke
      have hO' := hO.out
      rw [List.take_of_length_le (by rw [HLC.out]; exact Nat.le_refl _)] at hO'
      obtain ⟨g, rfl, hbg, hgl⟩ : ∃ g, ad = some ⟨g, 0, none⟩ ∧ w.heap.size ≤ g ∧ g < wr.heap.size := by
        rcases hO'.2 with ⟨_, h0⟩ | ⟨g, cap, cur, e, h1, h2, _⟩
        · omega
        · simp only [Value.slice.injEq] at e
          exact ⟨g, e.1, h1, (Array.getElem?_eq_some_iff.1 h2).1⟩
      have hKn := Kn.made wr
      have hR := (Rd.of_own hO').mono ((Below.refl wr.heap.size wr).alloc (Nat.le_refl _) (.cells #[.slice none 0 0, .slice none 0 0] 76))
      have hB4 := hB.out.alloc hB.out.size (.cells #[.slice none 0 0, .slice none 0 0] 76)
      have HC := hide (HOF.out wr.heap.size _ _ _ _ _ _ hKn g cp (by omega) hR)
      have HB4 := hide hB4
      have hsz := hB.out.size
      clear hO hO' hB hKn hR hB4 HOF
      go_wp2_with fail
      refine HC.out.mono ?_
      rintro e w5 ⟨rfl, hk5⟩
      have HB5 := hide (HB4.out.trans (hk5.below HB4.out.size (fun i hi e => by omega)))
      clear HC hk5 HB4
      obtain ⟨V, hV⟩ : ∃ V, v7 m = V := ⟨_, rfl⟩
      rw [hV] at HV HF ⊢
      have hVb := HV.out
      clear hV HV
      go_wp2_with fail
      go_loopw [6, 7, 8] (fun u v x wr => ∃ U D d : Nat, u = .int .i64 U ∧ v = .int .i64 D ∧ x = .int .i64 d ∧ 2 ≤ d ∧ d ≤ 4 ∧ U ≤ 304679870005248 ∧ 1 ≤ D ∧ D ≤ 78364164096 ∧ Hid (fin d U D = (rA m, rB m)) ∧ Hid (Below w.heap.size w wr)) (fun _ _ x _ => 4 - (intOf x).toNat)
      case atStart => exact ⟨V, 78364164096, 2, rfl, rfl, rfl, by omega, by omega, hVb, by omega, by omega, HF, HB5⟩
      case round =>
        obtain ⟨U, D, d, rfl, rfl, rfl, hd2, hd4, hUb, hD1, hDb, HFIN, HBO⟩ := hrel
        clear HB5
        rcases (show d = 2 ∨ d = 3 ∨ d = 4 by omega) with rfl | rfl | rfl
        · go_wp2_with fail
          go_loopw [6, 7] (fun u v wr => ∃ U2 D2 f : Nat, u = .int .i64 U2 ∧ v = .int .i64 D2 ∧ U2 ≤ 304679870005248 ∧ 1 ≤ D2 ∧ D2 ≤ 78364164096 ∧ Hid (D2 < 2 ^ f) ∧ Hid (dv f 2 U2 D2 = dv 40 2 U D) ∧ Hid (Below w.heap.size w wr)) (fun _ v _ => (intOf v).toNat)
          case atStart => exact ⟨U, D, 40, rfl, rfl, hUb, hD1, hDb, hide (Nat.lt_of_le_of_lt hDb (by decide)), hide rfl, HBO⟩
          case round =>
            obtain ⟨U2, D2, f, rfl, rfl, hU2, hD2, hD2b, hf, hdv, HBI⟩ := hrel
            by_cases hu : U2 % 2 = 0
            · have hu1 : ((U2 : Int) % 2 == 0) = true := by simp; omega
              have hu2 : (Int.tmod (U2 : Int) 2 == 0) = true := by rw [Int.tmod_eq_emod_of_nonneg (by omega)]; exact hu1
              have hu3 : (U2 : Int) % 2 = 0 := by omega
              by_cases hd : D2 % 2 = 0
              · have hd1 : ((D2 : Int) % 2 == 0) = true := by simp; omega
                have hd2 : (Int.tmod (D2 : Int) 2 == 0) = true := by rw [Int.tmod_eq_emod_of_nonneg (by omega)]; exact hd1
                have hd3 : (D2 : Int) % 2 = 0 := by omega
                obtain ⟨U3, hU3⟩ : ∃ U3, U2 / 2 = U3 := ⟨_, rfl⟩
                obtain ⟨D3, hD3⟩ : ∃ D3, D2 / 2 = D3 := ⟨_, rfl⟩
                have hq1 : Int.tdiv (U2 : Int) 2 = (U3 : Int) := by rw [Int.tdiv_eq_ediv_of_nonneg (by omega)]; omega
                have hq2 : Int.tdiv (D2 : Int) 2 = (D3 : Int) := by rw [Int.tdiv_eq_ediv_of_nonneg (by omega)]; omega
                have hx1 : (U2 : Int) / 2 = (U3 : Int) := by omega
                have hx2 : (D2 : Int) / 2 = (D3 : Int) := by omega
                obtain ⟨f3, hf3⟩ : ∃ f3, f = f3 + 1 := ⟨f - 1, by
                  have h1 := hf.out
                  by_cases e : f = 0
                  · rw [e] at h1; simp at h1; omega
                  · omega⟩
                have HD : Hid (D3 < 2 ^ f3) := hide (by have h1 := hf.out; rw [hf3, Nat.pow_succ] at h1; omega)
                have HV : Hid (dv f3 2 U3 D3 = dv 40 2 U D) := hide (by
                  rw [← hdv.out, hf3, dv, if_pos (by rw [hu, hd]; rfl), hU3, hD3])
                have b1 : U3 ≤ 304679870005248 := by omega
                have b2 : 1 ≤ D3 ∧ D3 ≤ 78364164096 ∧ D3 < D2 := by omega
                clear hf hdv hf3 hU3 hD3 hu hd
                go_wp2_with fail
                exact ⟨⟨U3, D3, f3, rfl, rfl, b1, b2.1, b2.2.1, HD, HV, HBI⟩, by simp [intOf]; omega⟩
              · have hd1 : ((D2 : Int) % 2 == 0) = false := by simp; omega
                have hd2 : (Int.tmod (D2 : Int) 2 == 0) = false := by rw [Int.tmod_eq_emod_of_nonneg (by omega)]; exact hd1
                have HV : Hid (dv 40 2 U D = (U2, D2)) := hide (by
                  rw [← hdv.out]
                  cases f with
                  | zero => exact dv0 _ _ _
                  | succ f => rw [dv, if_neg (by simp [hd])])
                clear hdv hf hd hu
                go_wp2_with fail
                exact ⟨⟨U2, D2, 2 + 1, rfl, rfl, by congr 1, by omega, by omega, hU2, hD2, hD2b, hide (by rw [← HFIN.out]; exact (fin2 HV.out).symm), HBI⟩, by simp [intOf]⟩
            · have hu1 : ((U2 : Int) % 2 == 0) = false := by simp; omega
              have hu2 : (Int.tmod (U2 : Int) 2 == 0) = false := by rw [Int.tmod_eq_emod_of_nonneg (by omega)]; exact hu1
              have HV : Hid (dv 40 2 U D = (U2, D2)) := hide (by
                rw [← hdv.out]
                cases f with
                | zero => exact dv0 _ _ _
                | succ f => rw [dv, if_neg (by simp [hu])])
              clear hdv hf hu
              go_wp2_with fail
              exact ⟨⟨U2, D2, 2 + 1, rfl, rfl, by congr 1, by omega, by omega, hU2, hD2, hD2b, hide (by rw [← HFIN.out]; exact (fin2 HV.out).symm), HBI⟩, by simp [intOf]⟩
        · go_wp2_with fail
          go_loopw [6, 7] (fun u v wr => ∃ U2 D2 f : Nat, u = .int .i64 U2 ∧ v = .int .i64 D2 ∧ U2 ≤ 304679870005248 ∧ 1 ≤ D2 ∧ D2 ≤ 78364164096 ∧ Hid (D2 < 2 ^ f) ∧ Hid (dv f 3 U2 D2 = dv 40 3 U D) ∧ Hid (Below w.heap.size w wr)) (fun _ v _ => (intOf v).toNat)
          case atStart => exact ⟨U, D, 40, rfl, rfl, hUb, hD1, hDb, hide (Nat.lt_of_le_of_lt hDb (by decide)), hide rfl, HBO⟩
          case round =>
            obtain ⟨U2, D2, f, rfl, rfl, hU2, hD2, hD2b, hf, hdv, HBI⟩ := hrel
            by_cases hu : U2 % 3 = 0
            · have hu1 : ((U2 : Int) % 3 == 0) = true := by simp; omega
              have hu2 : (Int.tmod (U2 : Int) 3 == 0) = true := by rw [Int.tmod_eq_emod_of_nonneg (by omega)]; exact hu1
              have hu3 : (U2 : Int) % 3 = 0 := by omega
              by_cases hd : D2 % 3 = 0
              · have hd1 : ((D2 : Int) % 3 == 0) = true := by simp; omega
                have hd2 : (Int.tmod (D2 : Int) 3 == 0) = true := by rw [Int.tmod_eq_emod_of_nonneg (by omega)]; exact hd1
                have hd3 : (D2 : Int) % 3 = 0 := by omega
                obtain ⟨U3, hU3⟩ : ∃ U3, U2 / 3 = U3 := ⟨_, rfl⟩
                obtain ⟨D3, hD3⟩ : ∃ D3, D2 / 3 = D3 := ⟨_, rfl⟩
                have hq1 : Int.tdiv (U2 : Int) 3 = (U3 : Int) := by rw [Int.tdiv_eq_ediv_of_nonneg (by omega)]; omega
                have hq2 : Int.tdiv (D2 : Int) 3 = (D3 : Int) := by rw [Int.tdiv_eq_ediv_of_nonneg (by omega)]; omega
                have hx1 : (U2 : Int) / 3 = (U3 : Int) := by omega
                have hx2 : (D2 : Int) / 3 = (D3 : Int) := by omega
                obtain ⟨f3, hf3⟩ : ∃ f3, f = f3 + 1 := ⟨f - 1, by
                  have h1 := hf.out
                  by_cases e : f = 0
                  · rw [e] at h1; simp at h1; omega
                  · omega⟩
                have HD : Hid (D3 < 2 ^ f3) := hide (by have h1 := hf.out; rw [hf3, Nat.pow_succ] at h1; omega)
                have HV : Hid (dv f3 3 U3 D3 = dv 40 3 U D) := hide (by
                  rw [← hdv.out, hf3, dv, if_pos (by rw [hu, hd]; rfl), hU3, hD3])
                have b1 : U3 ≤ 304679870005248 := by omega
                have b2 : 1 ≤ D3 ∧ D3 ≤ 78364164096 ∧ D3 < D2 := by omega
                clear hf hdv hf3 hU3 hD3 hu hd
                go_wp2_with fail
                exact ⟨⟨U3, D3, f3, rfl, rfl, b1, b2.1, b2.2.1, HD, HV, HBI⟩, by simp [intOf]; omega⟩
              · have hd1 : ((D2 : Int) % 3 == 0) = false := by simp; omega
                have hd2 : (Int.tmod (D2 : Int) 3 == 0) = false := by rw [Int.tmod_eq_emod_of_nonneg (by omega)]; exact hd1
                have HV : Hid (dv 40 3 U D = (U2, D2)) := hide (by
                  rw [← hdv.out]
                  cases f with
                  | zero => exact dv0 _ _ _
                  | succ f => rw [dv, if_neg (by simp [hd])])
                clear hdv hf hd hu
                go_wp2_with fail
                exact ⟨⟨U2, D2, 3 + 1, rfl, rfl, by congr 1, by omega, by omega, hU2, hD2, hD2b, hide (by rw [← HFIN.out]; exact (fin3 HV.out).symm), HBI⟩, by simp [intOf]⟩
            · have hu1 : ((U2 : Int) % 3 == 0) = false := by simp; omega
              have hu2 : (Int.tmod (U2 : Int) 3 == 0) = false := by rw [Int.tmod_eq_emod_of_nonneg (by omega)]; exact hu1
              have HV : Hid (dv 40 3 U D = (U2, D2)) := hide (by
                rw [← hdv.out]
                cases f with
                | zero => exact dv0 _ _ _
                | succ f => rw [dv, if_neg (by simp [hu])])
              clear hdv hf hu
              go_wp2_with fail
              exact ⟨⟨U2, D2, 3 + 1, rfl, rfl, by congr 1, by omega, by omega, hU2, hD2, hD2b, hide (by rw [← HFIN.out]; exact (fin3 HV.out).symm), HBI⟩, by simp [intOf]⟩
        · have HE : Hid (rA m = U ∧ rB m = D) := hide (by
            have := HFIN.out
            unfold fin at this
            rw [if_neg (by omega), if_neg (by omega)] at this
            simp only [Prod.mk.injEq] at this
            exact ⟨this.1.symm, this.2.symm⟩)
          go_wp2_with fail
          go_ret2
          exact ⟨by rw [HE.out.1, HE.out.2]; rfl, HBO.out⟩

end Go.Proofs.Ytmboikpcbkiepaa
