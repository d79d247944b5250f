/-
  What package deck's Sign and Number answer, and the document's own functions beside them. No conditions beyond those that each theorem bears.
-/
import Derived.Test.YtdipbbcggccgcabNum
namespace Go.Proofs.Ytdipbbcggccgcab
open Go.RowKit

theorem retN {a b : Nat} (h : a = b) : Ending.returned (.int .i64 (a : Int)) = .returned (.int .i64 (b : Int)) := by rw [h]

set_option maxHeartbeats 400000 in
theorem smaller_any (a : Option Addr) (n c : Nat) (zs : List Int) (i : Nat) (w : World) (h : Rd w a n c zs) (hi : i < n) (hn : n ≤ 104) :
    Calls Try.prog 11 #[.slice a n c, .int .i64 i] w fun e w' => e = .returned (.int .i64 (less zs i : Nat)) ∧ w' = w := by
  have hcm := h.max
  have hcn := h.cap
  unfold maxLen at hcm
  obtain ⟨b, off, rfl, hc⟩ := h.cells (by omega)
  have r0 := hc i hi
  have HLEN := hide h.len
  have HC := hide hc
  clear h hc
  have fin : ∀ k, k = n - (i + 1) → sumTo (lessI zs i) (i + 1 + k) = less zs i := by
    intro k hk; unfold less; rw [HLEN.out, show i + 1 + k = n by omega]
  have HF := hide fin
  have HST := hide (less_start zs i (i + 1) (Nat.le_refl _))
  clear fin
  by_cases hci : c = i + 1
  · have hni : n = i + 1 := by omega
    subst hni
    subst hci
    go_enter Try.func11, Try.ntmps11
    go_wp2
    refine wp_loop_rounds 1 ?_
    rw [rounds_succ]
    go_wp2
    go_ret
    refine ⟨?_, rfl⟩
    have := HF.out 0 (by omega)
    rw [Nat.add_zero, HST.out] at this
    rw [← this]
    rfl
  · go_enter Try.func11, Try.ntmps11
    go_wp2
    go_loop [5, 13] (fun s d => ∃ k : Nat, k ≤ n - (i + 1) ∧ d = .int .i64 k ∧ s = .int .i64 (sumTo (lessI zs i) (i + 1 + k) : Nat)) (fun _ d => n - (i + 1) - (intOf d).toNat)
    case atStart => exact ⟨0, by omega, rfl, by rw [Nat.add_zero, HST.out]; rfl⟩
    case round =>
      obtain ⟨k, hk, rfl, rfl⟩ := hrel
      have hsl : sumTo (lessI zs i) (i + 1 + k) ≤ (i + 1 + k) * 1 := sumTo_le _ _ 1 (fun j _ => lessI_le zs i j)
      obtain ⟨S, hS⟩ : ∃ S, S = sumTo (lessI zs i) (i + 1 + k) := ⟨_, rfl⟩
      rw [← hS] at hsl ⊢
      by_cases hlt : k < n - (i + 1)
      · have r1 := HC.out (i + 1 + k) (by omega)
        rw [← Nat.add_assoc] at r1
        have hnext : sumTo (lessI zs i) (i + 1 + (k + 1)) = S + lessI zs i (i + 1 + k) := by rw [hS]; rfl
        have HN := hide hnext
        have hlt' : (k : Int) < ((n - (i + 1) : Nat) : Int) := by omega
        clear hS hnext
        by_cases hv : zs.getD (i + 1 + k) 0 < zs.getD i 0
        · have hv' : zs[i + 1 + k]?.getD 0 < zs[i]?.getD 0 := by simpa using hv
          have hl1 : lessI zs i (i + 1 + k) = 1 := by unfold lessI; rw [if_pos ⟨by omega, hv⟩]
          have HL := hide hl1
          clear hv hl1
          go_wp2
          go_round
          case rel => exact ⟨k + 1, by omega, by go_num, by rw [HN.out, HL.out]; go_num⟩
          case measure => simp [intOf]; omega
        · have hv' : ¬ zs[i + 1 + k]?.getD 0 < zs[i]?.getD 0 := by simpa using hv
          have hl1 : lessI zs i (i + 1 + k) = 0 := by unfold lessI; rw [if_neg (fun h => hv h.2)]
          have HL := hide hl1
          clear hv hl1
          go_wp2
          go_round
          case rel => exact ⟨k + 1, by omega, by go_num, by rw [HN.out, HL.out]; go_num⟩
          case measure => simp [intOf]; omega
      · have hke : k = n - (i + 1) := by omega
        have hlt' : ¬ (k : Int) < ((n - (i + 1) : Nat) : Int) := by omega
        have HS := hide (hS.trans (HF.out k hke))
        clear hS
        go_wp2
        go_ret
        exact ⟨retN HS.out, rfl⟩

theorem Try.info4 : (Try.prog.info? 4).map (fun i => (i.zero, i.size, i.bytes)) = some (some (.bool false), 1, 1) := by kernel_rfl

theorem made_bools (n : Nat) : (madeCells #[Value.bool false] n).toList = (List.replicate n false).map Value.bool := by
  rw [toList_madeCells_one, List.map_replicate]

theorem ownB_cell {wr : World} {base g n : Nat} {L : List Bool} (h : wr.ownsRow base 4 1 (.slice (some ⟨g, 0, none⟩) n n) n (L.map Value.bool)) (p : Nat) (hp : p < n) :
    wr.cell? ⟨g, p, none⟩ = some (.bool (L.getD p false)) ∧ wr.frozen? ⟨g, p, none⟩ = false := by
  refine ⟨?_, h.frozenAt p⟩
  have hl : L.length = n := by simpa using h.1
  rw [h.cellAt p (by omega)]
  simp [List.getD, hl, hp]

theorem ownB_set {wr : World} {base g n : Nat} {L : List Bool} (h : wr.ownsRow base 4 1 (.slice (some ⟨g, 0, none⟩) n n) n (L.map Value.bool)) (p : Nat) (x : Bool) :
    (wr.setCell ⟨g, p, none⟩ (.bool x)).ownsRow base 4 1 (.slice (some ⟨g, 0, none⟩) n n) n ((L.set p x).map Value.bool) := by
  have := (h.stored p (.bool x)).1
  rwa [← List.map_set] at this

/-- Of the first k things all are within 0 to n - 1, none comes twice, and seen says which have come. -/
structure Seen (zs : List Int) (n k : Nat) (L : List Bool) : Prop where
  len : L.length = n
  rng : ∀ x ∈ zs.take k, 0 ≤ x ∧ x < n
  nod : (zs.take k).Nodup
  is : ∀ p, p < n → (L.getD p false = true ↔ (p : Int) ∈ zs.take k)

theorem seen_start (zs : List Int) (n : Nat) : Seen zs n 0 (List.replicate n false) :=
  ⟨by simp, by simp, by simp, fun p hp => by simp [List.getD, hp]⟩

theorem getDB_set (L : List Bool) (i j : Nat) (x : Bool) (hi : i < L.length) : (L.set i x).getD j false = if j = i then x else L.getD j false := by
  simp only [List.getD, List.getElem?_set]
  by_cases h : i = j
  · subst h; simp [hi]
  · rw [if_neg h, if_neg (fun e => h e.symm)]

theorem take_snoc (zs : List Int) (k : Nat) (hk : k < zs.length) : zs.take (k + 1) = zs.take k ++ [zs.getD k 0] := by
  rw [List.take_succ_eq_append_getElem hk]; simp [List.getD, hk]

theorem seen_step {zs : List Int} {n k p : Nat} {L : List Bool} (h : Seen zs n k L) (hk : k < zs.length) (hp : p < n) (hx : zs.getD k 0 = (p : Int)) (hs : L.getD p false = false) : Seen zs n (k + 1) (L.set p true) := by
  have hno : (p : Int) ∉ zs.take k := fun hm => by have := (h.is p hp).2 hm; rw [hs] at this; cases this
  refine ⟨by simp [h.len], ?_, ?_, fun q hq => ?_⟩
  · intro x hm
    rw [take_snoc zs k hk, hx] at hm
    rcases List.mem_append.1 hm with hm | hm
    · exact h.rng x hm
    · simp at hm; omega
  · rw [take_snoc zs k hk, hx, List.nodup_append]
    refine ⟨h.nod, by simp, fun x hm y hy e => ?_⟩
    simp at hy
    exact hno (by rw [← hy, ← e]; exact hm)
  · rw [take_snoc zs k hk, hx, getDB_set _ _ _ _ (by rw [h.len]; exact hp), List.mem_append]
    by_cases e : q = p
    · subst e; simp
    · rw [if_neg e, h.is q hq]
      simp
      omega

theorem seen_end {zs : List Int} {L : List Bool} (h : Seen zs zs.length zs.length L) : IsOrd zs := by
  have e : zs.take zs.length = zs := List.take_of_length_le (Nat.le_refl _)
  refine isOrd_of_nodup zs (by have := h.nod; rwa [e] at this) (fun x hx => h.rng x (by rw [e]; exact hx))

theorem not_seen {zs : List Int} {k p : Nat} {L : List Bool} (h : Seen zs zs.length k L) (hk : k < zs.length) (hp : p < zs.length) (hx : zs.getD k 0 = (p : Int)) (hs : L.getD p false = true) : ¬ IsOrd zs := by
  intro ho
  have hm := (h.is p hp).1 hs
  have hn := ho.nodup
  rw [← List.take_append_drop k zs, List.nodup_append] at hn
  refine hn.2.2 _ hm (p : Int) ?_ rfl
  rw [List.drop_eq_getElem_cons hk]
  simp [List.getD, hk] at hx
  simp [hx]

theorem not_rng {zs : List Int} {k : Nat} (hk : k < zs.length) (hx : zs.getD k 0 < 0 ∨ (zs.length : Int) ≤ zs.getD k 0) : ¬ IsOrd zs := by
  intro ho
  have := ho.range (zs.getD k 0) (by simp [List.getD, hk])
  omega

set_option maxHeartbeats 400000 in
theorem isOrder_any (a : Option Addr) (n c : Nat) (zs : List Int) (w : World) (h : Rd w a n c zs) (hn : n ≤ 104) (v : Bool) (hv : v = true ↔ IsOrd zs) :
    Calls Try.prog 10 #[.slice a n c] w fun e w' => e = .returned (.bool v) ∧ Below w.heap.size w w' := by
  obtain ⟨i0, hi, hz0, hz1, hz2⟩ := info_parts Try.info4
  have hmm : n ≤ maxLen := by unfold maxLen; omega
  have hby : i0.bytes * n ≤ 281474976710656 := by rw [hz2]; omega
  have hlen := h.len
  have HLEN := hide hlen
  have HV := hide hv
  have HH := hide h
  have hcm := h.max
  have hcn := h.cap
  unfold maxLen at hcm
  clear hlen hv h
  go_enter Try.func10, Try.ntmps10
  go_wp2_with (at_make; refine wpList_make_full w rfl _ _ 34 rfl w.heap.size 4 i0 (.bool false) 1 Try.underlying34 hi hz0 hz1 _ _ _ _ n rfl rfl (by omega) (by omega) hby hmm (Nat.le_refl _) ?_)
  intro w1 hown hgrow
  have hb1 : Below w.heap.size w w1 := (Below.refl _ _).grown hgrow (Nat.le_refl _) (fun k hk => by simp at hk)
  rw [made_bools] at hown
  clear hgrow
  go_wp2
  go_loopw [11] (fun i wr => ∃ (k : Nat) (L : List Bool), k ≤ n ∧ i = .int .i64 k ∧ wr.ownsRow w.heap.size 4 1 (.slice (some ⟨w.heap.size, 0, none⟩) n n) n (L.map Value.bool) ∧ Below w.heap.size w wr ∧ Seen zs n k L) (fun i _ => n - (intOf i).toNat)
  case atStart => exact ⟨0, _, by omega, rfl, hown, hb1, seen_start zs n⟩
  case round =>
    clear hown hb1
    obtain ⟨k, L, hk, rfl, hown, hbel, hS⟩ := hrel
    have HS := hide hS
    clear hS
    by_cases hlt : k < n
    · obtain ⟨b, off, ha, hc⟩ := HH.out.cells (by omega)
      subst ha
      have hbl : b < w.heap.size := World.block_lt_of_cell? w _ (hc 0 (by omega))
      have r1 := hc k hlt
      rw [← hbel.cell (p := ⟨b, off + k, none⟩) hbl] at r1
      have hlt' : (k : Int) < (n : Int) := by omega
      have HB := hide hbel
      have hne : ¬ b = w.heap.size := by omega
      clear hc hbel
      by_cases h1 : zs.getD k 0 < 0
      · have h1' : zs[k]?.getD 0 < 0 := by simpa using h1
        have HNO := hide (not_rng (by rw [HLEN.out]; exact hlt) (.inl h1))
        clear h1 hown
        go_wp2
        go_ret
        exact ⟨ret_bool (by cases v; rfl; exact absurd (HV.out.1 rfl) HNO.out), HB.out⟩
      · have h1' : ¬ zs[k]?.getD 0 < 0 := by simpa using h1
        by_cases h2 : (n : Int) ≤ zs.getD k 0
        · have h2' : (n : Int) ≤ zs[k]?.getD 0 := by simpa using h2
          have HNO := hide (not_rng (zs := zs) (k := k) (by rw [HLEN.out]; exact hlt) (.inr (by rw [HLEN.out]; exact h2)))
          clear h1 h2 hown
          go_wp2
          go_ret
          exact ⟨ret_bool (by cases v; rfl; exact absurd (HV.out.1 rfl) HNO.out), HB.out⟩
        · obtain ⟨p, hp⟩ := Int.eq_ofNat_of_zero_le (show 0 ≤ zs.getD k 0 by omega)
          have hpn : p < n := by omega
          have hpn' : (p : Int) < (n : Int) := by omega
          have HP := hide hp
          rw [hp] at r1
          obtain ⟨c1, f1⟩ := ownB_cell hown p hpn
          have HO := hide (ownB_set hown p true)
          clear h1 h2 h1' hp hown
          cases hb : L.getD p false with
          | true =>
            rw [hb] at c1
            have HNO : Hid (¬ IsOrd zs) := hide (by
              have hl := HLEN.out
              subst hl
              exact not_seen HS.out hlt hpn HP.out hb)
            clear hb
            go_wp2
            go_ret
            exact ⟨ret_bool (by cases v; rfl; exact absurd (HV.out.1 rfl) HNO.out), HB.out⟩
          | false =>
            rw [hb] at c1
            have HSN := hide (seen_step HS.out (by rw [HLEN.out]; exact hlt) hpn HP.out hb)
            clear hb
            go_wp2
            go_roundw
            case rel => exact ⟨k + 1, _, by omega, by go_num, HO.out, HB.out.setCell (Nat.le_refl _) _, HSN.out⟩
            case measure => simp [intOf]; omega
    · have hke : k = n := by omega
      subst k
      have hlt' : ¬ (n : Int) < (n : Int) := by omega
      go_wp2
      go_ret
      refine ⟨ret_bool ?_, hbel⟩
      symm
      rw [HV.out]
      have hl := HLEN.out
      subst hl
      exact seen_end HS.out

end Go.Proofs.Ytdipbbcggccgcab
