/-
  The walk of the law on the rolls that are needed. No conditions beyond those that each theorem bears.
-/
import Derived.Test.YtmboikpcbkiepaaKof
namespace Go.Proofs.Ytmboikpcbkiepaa
open Go.RowKit Go.Maps

set_option maxHeartbeats 400000 in
theorem lawInts_own (a : Option Addr) (n c : Nat) (zs : List Int) (w : World) (h : Rd w a n c zs) (hr : n * 8 ≤ 140737488351232) :
    Calls Try.prog 18 #[.slice a n c] w fun e w' => ∃ a' c', e = .returned (.slice a' n c') ∧ w'.ownsRow w.heap.size 3 1 (.slice a' n c') n (zs.map (Value.int .i64)) ∧ Below w.heap.size w w' := by
  obtain ⟨i0, hi, hz0, hz1, hz2⟩ := info_parts Try.info3
  cases a with
  | none =>
    obtain rfl := h.nil rfl
    obtain rfl : n = 0 := by have := h.cap; omega
    go_enter Try.func18, Try.ntmps18
    go_wp2_with (at_builtin; refine wpList_append_own_none rfl _ _ 22 rfl w.heap.size 3 i0 1 Try.underlying22 hi _ 0 [] rfl (World.ownsRow_nil _ _ _ _) rfl ?_)
    go_ret
    have hz : zs = [] := List.eq_nil_of_length_eq_zero h.len
    subst hz
    exact ⟨_, _, rfl, World.ownsRow_nil _ _ _ _, Below.refl _ _⟩
  | some ad =>
    have hcell : ∀ j u, (zs.map (Value.int .i64))[j]? = some u → w.cell? (ad.add j) = some u := by
      intro j u hu
      have hj : j < n := by have := (List.getElem?_eq_some_iff.1 hu).1; simpa [h.len] using this
      obtain ⟨b, off, he, hc⟩ := h.cells (by omega)
      obtain rfl := Option.some.inj he
      rw [Addr.add_lit, hc j hj]
      have hz : j < zs.length := by rw [h.len]; exact hj
      simpa [List.getD, hz] using hu
    have hl : (zs.map (Value.int .i64)).length = n * 1 := by simp [h.len]
    have hone := ints_oneCell .i64 zs
    have hmax : 0 + n ≤ maxLen := by have := h.cap; have := h.max; omega
    have hle : Hid (zs.length = n) := h.len
    go_enter Try.func18, Try.ntmps18
    go_wp2_with (at_builtin; refine wpList_append_own _ rfl _ _ 22 rfl w.heap.size 3 i0 (.int .i64 0) 1 8 Try.underlying22 hi hz0 hz1 hz2 rfl (by decide) _ 0 [] rfl (World.ownsRow_nil _ _ _ _) ad n c (zs.map (Value.int .i64)) rfl hl hcell hone hmax (by omega) (Nat.le_refl _) ?_)
    intro v' w1 hown hgrow _
    have hex : ∃ a' c', v' = .slice a' n c' := by
      rcases hown.2 with ⟨hv, h0⟩ | ⟨g, cap, cur, hv, _⟩
      · exact ⟨none, 0, by rw [hv]; simp; omega⟩
      · exact ⟨_, _, hv⟩
    obtain ⟨a', c', rfl⟩ := hex
    have B : Below w.heap.size w w1 := (Below.refl _ _).grown hgrow (Nat.le_refl _) (fun k hk => by simp [Value.ownBlock] at hk)
    clear hgrow
    have HO := hide hown
    clear hown
    go_wp2
    go_ret
    exact ⟨_, _, rfl, HO.out, B⟩


/-- The memory tells every mean. -/
theorem of_ok (kb : Nat) : ∀ P, OfOk P kb
  | 0 => fun m _ h => absurd h (by omega)
  | P + 1 => by
    have h0 := of_ok kb P
    have l0 := least_zero P kb h0
    have l1 := least_succ P kb 0 (by omega) h0 l0
    have l2 := least_succ P kb 1 (by omega) h0 l1
    have l3 := least_succ P kb 2 (by omega) h0 l2
    have l4 := least_succ P kb 3 (by omega) h0 l3
    exact of_succ P kb h0 l2 l4

theorem of_all : OfAll := by
  intro kb m hm w F Ml mv vv sl hK g c hg hR
  have hkb : kb < w.heap.size := (Array.getElem?_eq_some_iff.1 hK.both).1
  have hK' : Kn w kb (fun i => F i ∧ i < w.heap.size) Ml mv vv sl := by
    refine ⟨hK.both, hK.men, hK.means, fun j hj => ?_, ⟨hK.fk, hkb⟩, fun g hg => ?_, fun g hg => ?_, hK.mem, hK.nd⟩
    · obtain ⟨g, c, h1, h2, h3, h4, h5⟩ := hK.rows j hj
      exact ⟨g, c, h1, h2, ⟨h3, h4⟩, h4, h5⟩
    · exact ⟨⟨(hK.fm g hg).1, ownsRow_lt hK.men hg⟩, (hK.fm g hg).2⟩
    · exact ⟨⟨(hK.fv g hg).1, ownsRow_lt hK.means hg⟩, (hK.fv g hg).2⟩
  refine (of_ok kb (pip m + 1) m hm (by omega) w (fun i => F i ∧ i < w.heap.size) Ml ⟨⟨_, _, _, hK'⟩, fun i hi => hi.2⟩ g c (fun e => hg e.1) hR).mono ?_
  rintro e w' ⟨rfl, F', Ml', _, hk, _, _⟩
  exact ⟨rfl, hk.mono (fun k _ h => h.1)⟩

set_option maxRecDepth 100000 in
theorem ms_tab : ((List.range 4).all fun a => (List.range 4).all fun b => (List.range 4).all fun c => (List.range 4).all fun d => (List.range 4).all fun e => (List.range 4).all fun f => Nat.blt 3 (a + b + c + d + e + f) || decide ([a, b, c, d, e, f] ∈ Ms)) = true := by decide +kernel

theorem ms_of {m : List Nat} (hl : m.length = 6) (hs : m.sum ≤ 3) : m ∈ Ms := by
  match m, hl with
  | [a, b, c, d, e, f], _ =>
    simp only [List.sum_cons, List.sum_nil, Nat.add_zero] at hs
    have h1 := List.all_eq_true.1 ms_tab a (List.mem_range.2 (by omega))
    have h2 := List.all_eq_true.1 h1 b (List.mem_range.2 (by omega))
    have h3 := List.all_eq_true.1 h2 c (List.mem_range.2 (by omega))
    have h4 := List.all_eq_true.1 h3 d (List.mem_range.2 (by omega))
    have h5 := List.all_eq_true.1 h4 e (List.mem_range.2 (by omega))
    have h6 := List.all_eq_true.1 h5 f (List.mem_range.2 (by omega))
    rw [Bool.or_eq_true, decide_eq_true_eq] at h6
    rcases h6 with h | h
    · rw [Nat.blt_eq] at h
      omega
    · exact h

theorem pad_of {L : List Int} (h : rmE L = 0) : ∃ m, m ∈ Ms ∧ L.length ≤ 6 ∧ ((m.drop L.length).all fun x => Nat.beq x 0) = true ∧ (cs m).take L.length = L := by
  unfold rmE at h
  by_cases h6 : 6 < L.length
  · rw [if_pos h6] at h; omega
  rw [if_neg h6] at h
  by_cases hn : (L.any fun x => decide (x < 0)) = true
  · rw [if_pos hn] at h; omega
  rw [if_neg hn] at h
  by_cases h3 : 3 < L.sum
  · rw [if_pos h3] at h; omega
  have hpos : ∀ z ∈ L, 0 ≤ z := by
    intro z hz
    by_cases hz0 : z < 0
    · exact absurd (List.any_eq_true.2 ⟨z, hz, by simpa using hz0⟩) hn
    · omega
  have hback : ∀ (l : List Int), (∀ z ∈ l, 0 ≤ z) → (l.map Int.toNat).map (fun n : Nat => (n : Int)) = l ∧ (((l.map Int.toNat).sum : Nat) : Int) = l.sum := by
    intro l
    induction l with
    | nil => intro _; exact ⟨rfl, rfl⟩
    | cons x l ih =>
      intro hl
      obtain ⟨e1, e2⟩ := ih (fun z hz => hl z (by simp [hz]))
      have hx := hl x (by simp)
      simp only [List.map_cons, List.sum_cons, Int.natCast_add, e1, e2, Int.toNat_of_nonneg hx, and_self]
  obtain ⟨e1, e2⟩ := hback L hpos
  refine ⟨L.map Int.toNat ++ List.replicate (6 - L.length) 0, ms_of (by simp; omega) ?_, by omega, ?_, ?_⟩
  · rw [List.sum_append]
    have : (List.replicate (6 - L.length) 0).sum = 0 := by simp
    omega
  · rw [List.drop_append_of_le_length (by simp), List.drop_of_length_le (by simp), List.nil_append, List.all_eq_true]
    intro x hx
    rw [List.eq_of_mem_replicate hx]
    rfl
  · unfold cs
    rw [List.map_append, e1, List.take_append_of_le_length (Nat.le_refl _), List.take_length]

attribute [local irreducible] vl lst sd6 endsL sumS rowS one9 endsX fl rA rB pip Ms v7 dv fin rfL acc far can nxt rf1 rfRow rfSum sumN

set_option maxRecDepth 100000 in
set_option maxHeartbeats 2000000 in
theorem rolls_any (a : Option Addr) (n c : Nat) (L : List Int) (w : World) (h : Rd w a n c L) (hr : n * 8 ≤ 140737488351232) :
    Calls Try.prog 5 #[.slice a n c] w fun e w' => e = .returned (.bool true) ∧ Below w.heap.size w w' := by
  have hLl := h.len
  have HI := hide (lawInts_own a n c L w h hr)
  have HR := hide h
  by_cases hE : rmE L = 0
  · obtain ⟨m, hm, hl6, hz, hT⟩ := pad_of hE
    rw [hLl] at hl6 hz hT
    have HM := hide hm
    have HZ := hide hz
    have HT := hide hT
    have HE := hide hE
    clear h hE hm hz hT hLl
    go_enter Try.func5, Try.ntmps5
    go_wp2_with fail
    refine HI.out.mono ?_
    rintro e w1 ⟨a1, c1, rfl, hown, hb1⟩
    have HR1 := hide (Rd.of_own hown)
    have HB1 := hide hb1
    clear hown hb1 HI
    go_wp2_with fail
    refine (Rolls_pad a1 n c1 m HM.out hl6 HZ.out w1 (by rw [HT.out]; exact HR1.out)).mono ?_
    rintro e w2 ⟨rfl, hb2⟩
    have HB2 := hide (HB1.out.trans (hb2.mono HB1.out.size))
    clear hb2 HR1 HB1
    go_wp2_with fail
    refine (RollsMay_any a n c L w2 (HR.out.mono HB2.out)).mono ?_
    rintro e w3 ⟨rfl, hw⟩
    subst w3
    rw [HE.out]
    go_wp2_with fail
    refine (RollsOf_pad of_all a n c m HM.out hl6 HZ.out w2 (by rw [HT.out]; exact HR.out.mono HB2.out)).mono ?_
    rintro e w4 ⟨rfl, hb4⟩
    have HB4 := hide (HB2.out.trans (hb4.mono HB2.out.size))
    clear hb4 HB2
    generalize rA m = x at *
    generalize rB m = y at *
    go_wp2_with fail
    go_ret
    exact ⟨by simp, HB4.out⟩
  · have HNO := hide (fun a1 c1 w1 h1 => Rolls_no a1 n c1 L w1 h1 hE)
    have HE := hide hE
    have hE' : ¬ rmE L = 0 := hE
    clear h hE hLl
    go_enter Try.func5, Try.ntmps5
    go_wp2_with fail
    refine HI.out.mono ?_
    rintro e w1 ⟨a1, c1, rfl, hown, hb1⟩
    have HR1 := hide (Rd.of_own hown)
    have HB1 := hide hb1
    clear hown hb1 HI
    go_wp2_with fail
    refine (HNO.out a1 c1 w1 HR1.out).mono ?_
    rintro e w2 ⟨rfl, hq⟩
    have HB2 : Hid (Below w.heap.size w w2) := hide (by obtain ⟨q, rfl⟩ := hq; exact HB1.out.trans (drewN_below _ _ _))
    clear hq HR1 HB1
    go_wp2_with fail
    refine (RollsMay_any a n c L w2 (HR.out.mono HB2.out)).mono ?_
    rintro e w3 ⟨rfl, hw⟩
    subst w3
    generalize rmE L = ee at *
    go_wp2_with fail
    go_ret
    exact ⟨by simp, HB2.out⟩

end Go.Proofs.Ytmboikpcbkiepaa
