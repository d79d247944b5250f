/-
  putWay: a way is put into a list, once, in order. No conditions beyond those that each theorem bears.
-/
import Derived.Test.YtnbaangnpoblfaaDoorNs
import Derived.Test.YtnbaangnpoblfaaDoorFl
namespace Go.Proofs.YtnbaangnpoblfaaDoor
open Go.RowKit Go.Shelf

theorem toI_inj {a b : List Nat} (h : toI a = toI b) : a = b := by
  have := congrArg (List.map Int.toNat) h
  simpa [toI, Function.comp_def] using this
theorem map_toI_getD (L : List (List Nat)) (k : Nat) : (L.map toI).getD k [] = toI (L.getD k []) := by
  simp only [List.getD, List.getElem?_map]
  cases L[k]? <;> rfl

attribute [local irreducible] lexB toI

set_option maxRecDepth 100000 in
set_option maxHeartbeats 8000000 in
theorem putWay_any (O : Nat → Prop) (v : Value) (L : List (List Nat)) (xa : Option Addr) (xc : Nat) (x : List Nat) (w : World) (hL : Fl O 0 w v (L.map toI)) (hx : Ir O w xa x.length xc (toI x)) (hlen : L.length ≤ 900000000) (hOn : ∀ k, w.heap.size ≤ k → O k) :
    Calls Tryd.prog 41 #[v, .slice xa x.length xc] w fun e w' => ∃ v', e = .returned v' ∧ Fl O 0 w' v' ((putN L x).map toI) ∧ Below w.heap.size w w' := by
  obtain ⟨la, lc, rfl⟩ := hL.form
  have hml : (L.map toI).length = L.length := List.length_map ..
  rw [hml] at hL ⊢
  have hR := hL.fr
  have hcm := hR.max
  have hcc := hR.cap
  unfold maxLen at hcm
  have hxr := hx.rd
  have HX := hide hx
  have HLL := hide hL
  have HR := hide hR
  have HXR := hide hxr
  have HON := hide hOn
  have HCEL : Hid (∀ i, i < L.length → ∃ b off a' c', la = some ⟨b, off, none⟩ ∧ w.cell? ⟨b, off + i, none⟩ = some (.slice a' (L.getD i []).length c') ∧ Rd w a' (L.getD i []).length c' (toI (L.getD i []))) := hide (fun i hi => by
    obtain ⟨b, off, e, hc⟩ := hR.cells (by omega)
    obtain ⟨a', c', k1, k2⟩ := hc i hi
    rw [map_toI_getD, toI_len] at k1 k2
    exact ⟨b, off, a', c', e, k1, k2.rd⟩)
  have HLB : Hid (∀ i, lexB (L.getD i []) x = lexI (toI (L.getD i [])) (toI x)) := hide (fun i => by unfold lexB; rfl)
  have HPL := hide (fun k h1 h2 h3 => plK_spec x L k h1 h2 h3)
  have HPN : Hid (putN L x = if plK L x < L.length ∧ L.getD (plK L x) [] = x then L else L.take (plK L x) ++ [x] ++ L.drop (plK L x)) := hide rfl
  obtain ⟨RS, hRS⟩ : ∃ RS, putN L x = RS := ⟨_, rfl⟩
  rw [hRS] at HPN ⊢
  have HXL : Hid ((toI x).length = x.length) := hide (toI_len x)
  obtain ⟨n, hn⟩ : ∃ n, L.length = n := ⟨_, rfl⟩
  obtain ⟨xn, hxn⟩ : ∃ xn, x.length = xn := ⟨_, rfl⟩
  have HN := hide hn
  rw [hn] at HCEL HPL HPN hcc hlen HLL HR ⊢
  rw [hxn] at HX HXR HXL ⊢
  clear hL hx hR hRS hn hxn hml hxr hOn
  go_enter Tryd.func41, Tryd.ntmps41
  go_wp2_with fail
  go_loopw [5] (fun u wr => ∃ k q : Nat, u = .int .i64 k ∧ k ≤ n ∧ wr = w.drewN q ∧ Hid (∀ i, i < k → lexB (L.getD i []) x = true)) (fun u _ => n - (intOf u).toNat)
  case atStart => exact ⟨0, 0, rfl, by omega, rfl, hide (fun i hi => absurd hi (by omega))⟩
  case round =>
    obtain ⟨k, q, rfl, hk, rfl, hlow⟩ := hrel
    by_cases hkn : k < n
    · have hkn' : (k : Int) < (n : Int) := by omega
      obtain ⟨b, off, a', c', rfl, hc, hr⟩ := HCEL.out k hkn
      have HLS := hide (less_any a' (L.getD k []).length c' (toI (L.getD k [])) xa xn xc (toI x) (w.drewN q) (hr.mono (drewN_below _ _ _)) (HXR.out.mono (drewN_below _ _ _)))
      rw [← HLB.out k] at HLS
      have HLK := hide (fun hh => HPL.out k hk hlow.out (fun _ => hh))
      have HSM := hide (fun q2 => sameInts_any a' xa (L.getD k []).length c' xn xc (toI (L.getD k [])) (toI x) (w.drewN q2) (hr.mono (drewN_below _ _ _)) (HXR.out.mono (drewN_below _ _ _)))
      have HEQ : Hid (decide (toI (L.getD k []) = toI x) = decide (L.getD k [] = x)) := hide (by
        rw [decide_eq_decide]; exact ⟨fun e => toI_inj e, fun e => by rw [e]⟩)
      rw [HEQ.out] at HSM
      generalize (L.getD k []).length = m at *
      cases hb : lexB (L.getD k []) x with
      | true =>
        rw [hb] at HLS
        have HNX : Hid (∀ i, i < k + 1 → lexB (L.getD i []) x = true) := hide (fun i hi => by
          by_cases e : i = k
          · subst e; exact hb
          · exact hlow.out i (by omega))
        clear hb hr
        go_wp2_with fail
        refine HLS.out.mono ?_
        rintro e w2 ⟨rfl, q2, hw2⟩
        subst w2
        go_wp2_with fail
        refine ⟨⟨k + 1, q + q2, by go_num, by omega, rfl, HNX⟩, by simp [intOf]; omega⟩
      | false =>
        rw [hb] at HLS
        have HPK := hide (HLK.out hb)
        clear hb hr
        go_wp2_with fail
        refine HLS.out.mono ?_
        rintro e w2 ⟨rfl, q2, hw2⟩
        subst w2
        simp only [World.drewN_drewN]
        go_wp2_with fail
        refine (HSM.out _).mono ?_
        rintro e w2 ⟨rfl, q3, hw2⟩
        subst w2
        simp only [World.drewN_drewN]
        by_cases he : L.getD k [] = x
        · have HF : Hid (Fl O 0 (w.drewN (q + q2 + q3)) (.slice (some ⟨b, off, none⟩) n lc) (RS.map toI)) := hide (by
            rw [HPN.out, HPK.out, if_pos ⟨hkn, he⟩]; exact HLL.out.mono (drewN_below _ _ _))
          rw [show decide (L.getD k [] = x) = true by simpa using he]
          clear he
          go_wp2_with fail
          go_ret
          exact ⟨_, rfl, HF.out, drewN_below _ _ _⟩
        · have HRE : Hid (RS = L.take k ++ [x] ++ L.drop k) := hide (by rw [HPN.out, HPK.out, if_neg (fun k => he k.2)])
          rw [show decide (L.getD k [] = x) = false by simpa using he]
          clear he
          generalize hwq : w.drewN (q + q2 + q3) = w3
          have HB3 : Hid (Below w.heap.size w w3) := hide (by rw [← hwq]; exact drewN_below _ _ _)
          clear hwq hc
          go_upto_region 7 with fail
          have FR3 := (HR.out.mono HB3.out)
          have hU := FR3.upto (k := k) (by omega)
          have hD0 := FR3.from (k := k) (by omega)
          have e1 : (L.map toI).take k = (L.take k).map toI := (List.map_take ..).symm
          have e2 : (L.map toI).drop k = (L.drop k).map toI := (List.map_drop ..).symm
          rw [e1] at hU
          rw [e2] at hD0
          have HD0 := hide hD0
          have HTL : Hid (((L.take k).map toI).length = k) := hide (by rw [List.length_map, List.length_take, HN.out]; omega)
          have HDL : Hid (((L.drop k).map toI).length = n - k) := hide (by rw [List.length_map, List.length_drop, HN.out])
          have hs3 := HB3.out.size
          obtain ⟨LT, hLT⟩ : ∃ LT, (L.take k).map toI = LT := ⟨_, rfl⟩
          obtain ⟨LD, hLD⟩ : ∃ LD, (L.drop k).map toI = LD := ⟨_, rfl⟩
          obtain ⟨XI, hXI⟩ : ∃ XI, toI x = XI := ⟨_, rfl⟩
          have HRM : Hid (RS.map toI = LT ++ [XI] ++ LD) := hide (by rw [HRE.out, List.map_append, List.map_append, hLT, hLD, ← hXI]; rfl)
          rw [hLT] at hU HTL
          rw [hLD] at HD0 HDL
          rw [hXI] at HX HXL
          clear hD0 e1 e2 FR3 hLT hLD hXI
          go_wp2_with (at_builtin; refine wpList_append_fr w3 rfl _ _ rfl w3.heap.size (.slice none 0 0) [] rfl (Fl.nil O _ _) _ k lc LT rfl hU (by simp; omega) (Nat.le_refl _) ?_)
          intro v4 w4 hF4 a4 c4 hv4 hg4
          have F4 : Fl O w3.heap.size w4 v4 LT := hF4 O (fun k _ h => h) (fun k hk _ => HON.out k (by omega))
          first | rw [List.length_nil, Nat.zero_add] at hv4 | skip
          have B4 : Below w3.heap.size w3 w4 := (Below.refl _ w3).grown hg4 (Nat.le_refl _) (fun j hj => by cases hj)
          subst hv4
          have F5 := F4.mono ((Below.refl _ w4).alloc (Nat.le_refl _) (.cells #[.slice xa xn xc] 22))
          have hI5 : Ir O (w4.alloc (.cells #[.slice xa xn xc] 22)) xa XI.length xc XI := by
            rw [HXL.out]
            exact (HX.out.keeps (X := fun _ => False) (Keeps.of_all HB3.out) (fun _ _ e => e)).keeps (X := fun _ => False) ((Keeps.of_all B4).trans (Keeps.of_all ((Below.refl _ w4).alloc (Nat.le_refl _) _))) (fun _ _ e => e)
          have hR5 : Fr O (w4.alloc (.cells #[.slice xa xn xc] 22)) (some ⟨w4.heap.size, 0, none⟩) 1 1 [XI] := Fr.one (a := xa) (c := xc) (by rw [HXL.out]; exact new_cell w4 _ 22) hI5
          have hs4 := B4.size
          have hw45 : w3.heap.size ≤ (w4.alloc (.cells #[.slice xa xn xc] 22)).heap.size := by simp; omega
          have HB5 : Hid (Below w3.heap.size w3 (w4.alloc (.cells #[.slice xa xn xc] 22))) := hide (B4.alloc B4.size _)
          clear hF4 hg4 F4 B4 hI5 hU
          go_wp2_with (at_builtin; refine wpList_append_fr (w4.alloc (.cells #[.slice xa xn xc] 22)) rfl _ _ rfl w3.heap.size _ LT rfl F5 (some ⟨w4.heap.size, 0, none⟩) 1 1 [XI] rfl hR5 (by have := HTL.out; omega) hw45 ?_)
          intro v6 w6 hF6 a6 c6 hv6 hg6
          have F6 := hF6 O (fun k _ h => h) (fun k hk _ => HON.out k (by have h2 := hw45; omega))
          have B6 : Below w3.heap.size w3 w6 := HB5.out.grown hg6 hw45 (fun j hj => by
            obtain ⟨vs, ho, _⟩ := F5
            exact (ho.lt j hj).1)
          first | rw [HTL.out] at hv6 | skip
          subst hv6
          have hD6 := HD0.out.mono B6
          have hs6 := B6.size
          have HB6 := hide B6
          clear hF6 hg6 F5 hR5 hw45 hs4 HB5
          by_cases hck : lc = k
          · rw [if_pos hck] at hD6
            have hck2 := hck
            subst hck2
            have z0 : n - lc = 0 := by omega
            first | rw [z0, Nat.sub_self] at hD6 | rw [z0] at hD6
            have hDL := HDL.out
            rw [z0] at hDL
            go_wp2_with (at_builtin; refine wpList_append_fr w6 rfl _ _ rfl w3.heap.size _ (LT ++ [XI]) rfl F6 _ 0 0 LD rfl hD6 (by have := HTL.out; simp only [List.length_append, List.length_singleton]; omega) hs6 ?_)
            intro v7 w7 hF7 a7 c7 hv7 hg7
            have F7 := hF7 O (fun k _ h => h) (fun k hk _ => HON.out k (by omega))
            have B7 : Below w3.heap.size w3 w7 := HB6.out.grown hg7 hs6 (fun j hj => by
              obtain ⟨vs, ho, _⟩ := F6
              exact (ho.lt j hj).1)
            have HF7 : Hid (Fl O 0 w7 v7 (RS.map toI)) := hide (by rw [HRM.out, List.append_assoc]; exact F7.base (Nat.zero_le _))
            have HB7 : Hid (Below w.heap.size w w7) := hide (HB3.out.trans (B7.mono hs3))
            clear hF7 hg7 F7 B7 F6 hD6 hv7
            go_wp2_with fail
            go_ret
            exact ⟨_, rfl, HF7.out, HB7.out⟩
          · have HCK := hide hck
            rw [if_neg hck] at hD6
            have hD6 : Fr O w6 (some ⟨b, off + k, none⟩) (n - k) (lc - k) LD := by simpa [Addr.add_lit] using hD6
            go_wp2_with (at_builtin; refine wpList_append_fr w6 rfl _ _ rfl w3.heap.size _ (LT ++ [XI]) rfl F6 _ (n - k) (lc - k) LD rfl hD6 (by have := HTL.out; simp only [List.length_append, List.length_singleton]; omega) hs6 ?_)
            intro v7 w7 hF7 a7 c7 hv7 hg7
            have F7 := hF7 O (fun k _ h => h) (fun k hk _ => HON.out k (by omega))
            have B7 : Below w3.heap.size w3 w7 := HB6.out.grown hg7 hs6 (fun j hj => by
              obtain ⟨vs, ho, _⟩ := F6
              exact (ho.lt j hj).1)
            have HF7 : Hid (Fl O 0 w7 v7 (RS.map toI)) := hide (by rw [HRM.out, List.append_assoc]; exact F7.base (Nat.zero_le _))
            have HB7 : Hid (Below w.heap.size w w7) := hide (HB3.out.trans (B7.mono hs3))
            clear hF7 hg7 F7 B7 F6 hD6 hv7
            go_wp2_with fail
            go_ret
            exact ⟨_, rfl, HF7.out, HB7.out⟩
    · obtain rfl : k = n := by omega
      have hkn' : ¬ (k : Int) < (k : Int) := by omega
      have HPK := hide (HPL.out k hk hlow.out (fun h => absurd h hkn))
      have HRE : Hid (RS = L.take k ++ [x] ++ L.drop k) := hide (by rw [HPN.out, HPK.out, if_neg (fun h => hkn h.1)])
      have HB3 : Hid (Below w.heap.size w (w.drewN q)) := hide (drewN_below _ _ _)
      go_upto_region 7 with fail
      generalize w.drewN q = w3 at *
      have FR3 := (HR.out.mono HB3.out)
      have hU := FR3.upto (k := k) (by omega)
      have hD0 := FR3.from (k := k) (by omega)
      have e1 : (L.map toI).take k = (L.take k).map toI := (List.map_take ..).symm
      have e2 : (L.map toI).drop k = (L.drop k).map toI := (List.map_drop ..).symm
      rw [e1] at hU
      rw [e2] at hD0
      have HD0 := hide hD0
      have HTL : Hid (((L.take k).map toI).length = k) := hide (by rw [List.length_map, List.length_take, HN.out]; omega)
      have HDL : Hid (((L.drop k).map toI).length = k - k) := hide (by rw [List.length_map, List.length_drop, HN.out])
      have hs3 := HB3.out.size
      obtain ⟨LT, hLT⟩ : ∃ LT, (L.take k).map toI = LT := ⟨_, rfl⟩
      obtain ⟨LD, hLD⟩ : ∃ LD, (L.drop k).map toI = LD := ⟨_, rfl⟩
      obtain ⟨XI, hXI⟩ : ∃ XI, toI x = XI := ⟨_, rfl⟩
      have HRM : Hid (RS.map toI = LT ++ [XI] ++ LD) := hide (by rw [HRE.out, List.map_append, List.map_append, hLT, hLD, ← hXI]; rfl)
      rw [hLT] at hU HTL
      rw [hLD] at HD0 HDL
      rw [hXI] at HX HXL
      clear hD0 e1 e2 FR3 hLT hLD hXI
      go_wp2_with (at_builtin; refine wpList_append_fr w3 rfl _ _ rfl w3.heap.size (.slice none 0 0) [] rfl (Fl.nil O _ _) _ k lc LT rfl hU (by simp; omega) (Nat.le_refl _) ?_)
      intro v4 w4 hF4 a4 c4 hv4 hg4
      have F4 : Fl O w3.heap.size w4 v4 LT := hF4 O (fun k _ h => h) (fun k hk _ => HON.out k (by omega))
      first | rw [List.length_nil, Nat.zero_add] at hv4 | skip
      have B4 : Below w3.heap.size w3 w4 := (Below.refl _ w3).grown hg4 (Nat.le_refl _) (fun j hj => by cases hj)
      subst hv4
      have F5 := F4.mono ((Below.refl _ w4).alloc (Nat.le_refl _) (.cells #[.slice xa xn xc] 22))
      have hI5 : Ir O (w4.alloc (.cells #[.slice xa xn xc] 22)) xa XI.length xc XI := by
        rw [HXL.out]
        exact (HX.out.keeps (X := fun _ => False) (Keeps.of_all HB3.out) (fun _ _ e => e)).keeps (X := fun _ => False) ((Keeps.of_all B4).trans (Keeps.of_all ((Below.refl _ w4).alloc (Nat.le_refl _) _))) (fun _ _ e => e)
      have hR5 : Fr O (w4.alloc (.cells #[.slice xa xn xc] 22)) (some ⟨w4.heap.size, 0, none⟩) 1 1 [XI] := Fr.one (a := xa) (c := xc) (by rw [HXL.out]; exact new_cell w4 _ 22) hI5
      have hs4 := B4.size
      have hw45 : w3.heap.size ≤ (w4.alloc (.cells #[.slice xa xn xc] 22)).heap.size := by simp; omega
      have HB5 : Hid (Below w3.heap.size w3 (w4.alloc (.cells #[.slice xa xn xc] 22))) := hide (B4.alloc B4.size _)
      clear hF4 hg4 F4 B4 hI5 hU
      go_wp2_with (at_builtin; refine wpList_append_fr (w4.alloc (.cells #[.slice xa xn xc] 22)) rfl _ _ rfl w3.heap.size _ LT rfl F5 (some ⟨w4.heap.size, 0, none⟩) 1 1 [XI] rfl hR5 (by have := HTL.out; omega) hw45 ?_)
      intro v6 w6 hF6 a6 c6 hv6 hg6
      have F6 := hF6 O (fun k _ h => h) (fun k hk _ => HON.out k (by have h2 := hw45; omega))
      have B6 : Below w3.heap.size w3 w6 := HB5.out.grown hg6 hw45 (fun j hj => by
        obtain ⟨vs, ho, _⟩ := F5
        exact (ho.lt j hj).1)
      first | rw [HTL.out] at hv6 | skip
      subst hv6
      have hD6 := HD0.out.mono B6
      have hs6 := B6.size
      have HB6 := hide B6
      clear hF6 hg6 F5 hR5 hw45 hs4 HB5
      by_cases hck : lc = k
      · rw [if_pos hck] at hD6
        have hck2 := hck
        subst hck2
        have z0 : lc - lc = 0 := by omega
        first | rw [z0, Nat.sub_self] at hD6 | rw [z0] at hD6
        have hDL := HDL.out
        rw [z0] at hDL
        go_wp2_with (at_builtin; refine wpList_append_fr w6 rfl _ _ rfl w3.heap.size _ (LT ++ [XI]) rfl F6 _ 0 0 LD rfl hD6 (by have := HTL.out; simp only [List.length_append, List.length_singleton]; omega) hs6 ?_)
        intro v7 w7 hF7 a7 c7 hv7 hg7
        have F7 := hF7 O (fun k _ h => h) (fun k hk _ => HON.out k (by omega))
        have B7 : Below w3.heap.size w3 w7 := HB6.out.grown hg7 hs6 (fun j hj => by
          obtain ⟨vs, ho, _⟩ := F6
          exact (ho.lt j hj).1)
        have HF7 : Hid (Fl O 0 w7 v7 (RS.map toI)) := hide (by rw [HRM.out, List.append_assoc]; exact F7.base (Nat.zero_le _))
        have HB7 : Hid (Below w.heap.size w w7) := hide (HB3.out.trans (B7.mono hs3))
        clear hF7 hg7 F7 B7 F6 hD6 hv7
        go_wp2_with fail
        go_ret
        exact ⟨_, rfl, HF7.out, HB7.out⟩
      · have HCK := hide hck
        rw [if_neg hck] at hD6
        rw [Nat.sub_self] at hD6
        go_wp2_with (at_builtin; refine wpList_append_fr w6 rfl _ _ rfl w3.heap.size _ (LT ++ [XI]) rfl F6 _ (0) (lc - k) LD rfl hD6 (by have := HTL.out; simp only [List.length_append, List.length_singleton]; omega) hs6 ?_)
        intro v7 w7 hF7 a7 c7 hv7 hg7
        have F7 := hF7 O (fun k _ h => h) (fun k hk _ => HON.out k (by omega))
        have B7 : Below w3.heap.size w3 w7 := HB6.out.grown hg7 hs6 (fun j hj => by
          obtain ⟨vs, ho, _⟩ := F6
          exact (ho.lt j hj).1)
        have HF7 : Hid (Fl O 0 w7 v7 (RS.map toI)) := hide (by rw [HRM.out, List.append_assoc]; exact F7.base (Nat.zero_le _))
        have HB7 : Hid (Below w.heap.size w w7) := hide (HB3.out.trans (B7.mono hs3))
        clear hF7 hg7 F7 B7 F6 hD6 hv7
        go_wp2_with fail
        go_ret
        exact ⟨_, rfl, HF7.out, HB7.out⟩

end Go.Proofs.YtnbaangnpoblfaaDoor
