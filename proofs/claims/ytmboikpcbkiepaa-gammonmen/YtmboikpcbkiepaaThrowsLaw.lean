/-
  The walk of the law on the throws that men need. No conditions beyond those that each theorem bears.
-/
import Derived.Test.YtmboikpcbkiepaaRy2
namespace Go.Proofs.Ytmboikpcbkiepaa
open Go.RowKit Go.Maps

/-- Which of m things a raw number speaks of. -/
def pk (n : Int) (m : Nat) : Nat := (if n < 0 then -(n + 1) else n).toNat % m

theorem pk_lt (n : Int) (m : Nat) (h : 0 < m) : pk n m < m := Nat.mod_lt _ h

set_option maxHeartbeats 400000 in
theorem picked_any (n : Int) (m : Nat) (w : World) (h1 : -9223372036854775808 ≤ n) (h2 : n ≤ 9223372036854775807) (hm : 1 ≤ m) (hm2 : m ≤ 479001600) :
    Calls Try.prog 22 #[.int .i64 n, .int .i64 m] w fun e w' => e = .returned (.int .i64 (pk n m : Nat)) ∧ w' = w := by
  have hm' : ¬ (m : Int) = 0 := by omega
  by_cases hn : n < 0
  · obtain ⟨q, hq⟩ := Int.eq_ofNat_of_zero_le (show 0 ≤ -(n + 1) by omega)
    have HP : Hid (pk n m = q % m) := hide (by unfold pk; rw [if_pos hn, hq]; rfl)
    have e0 : n = -(q : Int) - 1 := by omega
    have hq2 : (q : Int) ≤ 9223372036854775807 := by omega
    subst e0
    have hmod : (q : Int) % (m : Int) = ((q % m : Nat) : Int) := by simp
    have hneg : -(-(q : Int) - 1 + 1) = (q : Int) := by omega
    generalize q % m = R at *
    clear hq
    go_enter Try.func22, Try.ntmps22
    go_wp2
    go_ret
    refine ⟨ret_int ?_, rfl⟩
    rw [HP.out, ← hmod]
  · obtain ⟨q, rfl⟩ := Int.eq_ofNat_of_zero_le (show 0 ≤ n by omega)
    have HP : Hid (pk (q : Int) m = q % m) := hide (by unfold pk; rw [if_neg hn]; rfl)
    have hmod : (q : Int) % (m : Int) = ((q % m : Nat) : Int) := by simp
    generalize q % m = R at *
    go_enter Try.func22, Try.ntmps22
    go_wp2
    go_ret
    refine ⟨?_, rfl⟩
    rw [HP.out]
    rfl



def z6 : List Int := List.replicate 6 0
theorem z6_length : z6.length = 6 := rfl

theorem make6 (W : World) : (Instr.makeSlice 22 (.int .i64 6) (.int .i64 6)).run Try.prog W = .ok (.slice (some ⟨W.heap.size, 0, none⟩) 6 6) (W.alloc (.cells (ivs z6).toArray 3)) := by
  obtain ⟨i0, hi, hz0, hz1, hz2⟩ := info_parts Try.info3
  have := run_makeSlice (P := Try.prog) W 22 3 i0 (.int .i64 0) Try.underlying22 hi hz0 .i64 .i64 6 6 (by omega) (by omega) (by rw [hz1]; decide) (by rw [hz2]; decide) (by omega)
  rw [hz1] at this
  have e : madeCells (Value.int .i64 0).cells (Int.toNat 6 * 1) = (ivs z6).toArray := by
    apply Array.toList_inj.1
    have := toList_madeCells_one (Value.int .i64 0) 6
    exact this
  rw [e] at this
  exact this

theorem Rd.of_blk {w : World} {b t n : Nat} {L : List Int} (h : Blk w b t L) (hn : L.length = n) (hm : n ≤ maxLen) : Rd w (some ⟨b, 0, none⟩) n n L :=
  ⟨hn, Nat.le_refl _, hm, (fun e => by cases e), fun _ => ⟨b, 0, rfl, fun i hi => by rw [Nat.zero_add]; exact h.cell (by omega)⟩⟩

/-- One man at a place. -/
def uk (k : Nat) : List Nat := [0, 0, 0, 0, 0, 0].set k 1

theorem uk_tab : ((List.range 6).all fun k => Ms.contains (uk k) && decide (z6.set k 1 = cs (uk k))) = true := by decide +kernel

theorem uk_mem {k : Nat} (h : k < 6) : uk k ∈ Ms := by
  have := List.all_eq_true.1 uk_tab k (List.mem_range.2 h)
  simp only [Bool.and_eq_true, List.contains_iff_mem] at this
  exact this.1

theorem uk_cs {k : Nat} (h : k < 6) : z6.set k 1 = cs (uk k) := by
  have := List.all_eq_true.1 uk_tab k (List.mem_range.2 h)
  simp only [Bool.and_eq_true, decide_eq_true_eq] at this
  exact this.2

set_option maxRecDepth 100000 in
theorem more_tab : (Ms.all fun m => decide (3 ≤ m.sum) || (List.range 6).all fun k => Ms.contains (m.set k (m.getD k 0 + 1)) && Nat.beq (pip (m.set k (m.getD k 0 + 1))) (pip m + (k + 1)) && Nat.beq (m.set k (m.getD k 0 + 1)).sum (m.sum + 1)) = true := by decide +kernel

theorem more {m : List Nat} (hm : m ∈ Ms) (hs : m.sum < 3) {k : Nat} (hk : k < 6) : m.set k (m.getD k 0 + 1) ∈ Ms ∧ pip (m.set k (m.getD k 0 + 1)) = pip m + (k + 1) ∧ (m.set k (m.getD k 0 + 1)).sum = m.sum + 1 := by
  have h := List.all_eq_true.1 more_tab m hm
  rcases Bool.or_eq_true_iff.1 h with h | h
  · have := of_decide_eq_true h
    omega
  · have h2 := List.all_eq_true.1 h k (List.mem_range.2 hk)
    simp only [Bool.and_eq_true, List.contains_iff_mem] at h2
    exact ⟨h2.1.1, Nat.eq_of_beq_eq_true h2.1.2, Nat.eq_of_beq_eq_true h2.2⟩

set_option maxRecDepth 100000 in
theorem pip_tab : (Ms.all fun m => Nat.ble (pip m) 18) = true := by decide +kernel
theorem pip_le {m : List Nat} (hm : m ∈ Ms) : pip m ≤ 18 := Nat.le_of_ble_eq_true (List.all_eq_true.1 pip_tab m hm)

theorem cs_set (m : List Nat) (k x : Nat) : cs (m.set k x) = (cs m).set k (x : Int) := by
  unfold cs
  rw [List.map_set]

theorem cs_getD (m : List Nat) (k : Nat) : (cs m).getD k 0 = (m.getD k 0 : Nat) := by
  unfold cs
  simp only [List.getD, List.getElem?_map]
  cases m[k]? <;> rfl

set_option maxRecDepth 100000 in
theorem law_tab : (Ms.all fun m => (Nat.beq m.sum 0 || Nat.ble (rB m) (rA m)) && Nat.ble 1 (rB m) && (!(Nat.beq m.sum 0) || (Nat.beq (rA m) 0 && Nat.beq (rB m) 1)) && Nat.ble (m.sum * rB m) (4 * rA m) && (Nat.beq m.sum 0 || Nat.ble (2 * rA m) ((pip m + 1) * rB m)) && Nat.ble (rA m) 304679870005248 && Nat.ble (rB m) 101559956668416) = true := by decide +kernel

theorem law_facts {m : List Nat} (hm : m ∈ Ms) : (m.sum ≠ 0 → rB m ≤ rA m) ∧ 1 ≤ rB m ∧ (m.sum = 0 → rA m = 0 ∧ rB m = 1) ∧ m.sum * rB m ≤ 4 * rA m ∧ (m.sum ≠ 0 → 2 * rA m ≤ (pip m + 1) * rB m) ∧ (rA m ≤ 304679870005248 ∧ rB m ≤ 101559956668416) := by
  have h := List.all_eq_true.1 law_tab m hm
  simp only [Bool.and_eq_true, Bool.or_eq_true, Bool.not_eq_true', Nat.ble_eq, Nat.beq_eq] at h
  obtain ⟨⟨⟨⟨⟨⟨h1, h2⟩, h3⟩, h4⟩, h5⟩, h6⟩, h7⟩ := h
  refine ⟨fun h0 => ?_, h2, fun h0 => ?_, h4, fun h0 => ?_, h6, h7⟩
  · rcases h1 with h1 | h1
    · exact absurd h1 h0
    · exact h1
  · rcases h3 with h3 | h3
    · rw [h0] at h3; cases h3
    · exact h3
  · rcases h5 with h5 | h5
    · exact absurd h5 h0
    · exact h5

theorem zero_facts : [0, 0, 0, 0, 0, 0] ∈ Ms ∧ z6 = cs [0, 0, 0, 0, 0, 0] ∧ pip [0, 0, 0, 0, 0, 0] = 0 ∧ [0, 0, 0, 0, 0, 0].sum = 0 := by
  refine ⟨by simp [Ms], rfl, by decide, by decide⟩

attribute [local irreducible] vl lst sd6 endsL sumS rowS one9 endsX fl rA rB pip Ms uk

set_option maxRecDepth 100000 in
set_option maxHeartbeats 4000000 in
theorem throws_any (a : Option Addr) (n c : Nat) (zs : List Int) (y : Int) (w : World) (h : Rd w a n c zs) (hz : ∀ z ∈ zs, -9223372036854775808 ≤ z ∧ z ≤ 9223372036854775807) (hy : -9223372036854775808 ≤ y ∧ y ≤ 9223372036854775807) :
    Calls Try.prog 7 #[.slice a n c, .int .i64 y] w fun e w' => e = .returned (.bool true) ∧ Below w.heap.size w w' := by
  have hcm := h.max
  have hcn := h.cap
  have hlen := h.len
  unfold maxLen at hcm
  have HRD := hide h
  have HZS := hide hz
  clear h hz
  have hmk0 := make6 w
  have K0 : Blk (w.alloc (.cells (ivs z6).toArray 3)) w.heap.size 3 z6 := Blk.new w 3 z6 _ rfl
  have B0 : Below w.heap.size w (w.alloc (.cells (ivs z6).toArray 3)) := (Below.refl _ w).alloc (Nat.le_refl _) _
  generalize w.alloc (.cells (ivs z6).toArray 3) = w0 at *
  obtain ⟨lb, hlb⟩ : ∃ lb, w.heap.size = lb := ⟨_, rfl⟩
  have hlw : w.heap.size ≤ lb := by omega
  rw [hlb] at K0 hmk0
  rw [zero_facts.2.1] at K0
  have HK0 := hide K0
  have HB0 := hide B0
  clear K0 B0 hlb
  go_enter Try.func7, Try.ntmps7
  go_wp2_with fail
  clear hmk0
  go_loopw [6, 7, 8] (fun u v x wr => ∃ (i p : Nat) (m : List Nat), u = .int .i64 i ∧ v = .int .i64 p ∧ x = .int .i64 i ∧ i ≤ 3 ∧ i ≤ n ∧ p ≤ 18 ∧ Hid (m ∈ Ms) ∧ Hid (m.sum = i) ∧ Hid (p = pip m) ∧ Hid (Blk wr lb 3 (cs m)) ∧ Hid (Below w.heap.size w wr)) (fun _ _ x _ => 3 - (intOf x).toNat)
  case atStart => exact ⟨0, 0, [0, 0, 0, 0, 0, 0], rfl, rfl, rfl, by omega, by omega, by omega, hide zero_facts.1, hide zero_facts.2.2.2, hide zero_facts.2.2.1.symm, HK0, HB0⟩
  case round =>
    obtain ⟨i, p, m, rfl, rfl, rfl, hi3, hin, hp, hm, hsum, hpip, hK, hB⟩ := hrel
    clear HK0 HB0
    by_cases hlt : i < n
    · have hlt' : (i : Int) < (n : Int) := by omega
      by_cases hl3 : i < 3
      · have hl3' : (i : Int) < 3 := by omega
        obtain ⟨b, off, ha, hc0⟩ := HRD.out.cells (by omega)
        have hci := hc0 i hlt
        have hbb := World.block_lt_of_cell? _ _ hci
        have hcw : wr.cell? ⟨b, off + i, none⟩ = some (.int .i64 (zs.getD i 0)) := (hB.out.cell (p := ⟨b, off + i, none⟩) hbb).trans hci
        have hzi := HZS.out _ (getD_mem (zs := zs) (k := i) (by omega))
        generalize zs.getD i 0 = z at *
        subst ha
        clear hc0 hci hbb
        go_wp2_with fail
        refine (picked_any z 6 wr hzi.1 hzi.2 (by omega) (by omega)).mono ?_
        rintro e w6 ⟨rfl, hw6⟩
        subst w6
        have hkl := pk_lt z 6 (by omega)
        generalize pk z 6 = k at *
        obtain ⟨M1, M2, M3⟩ := more hm.out (by rw [hsum.out]; exact hl3) hkl
        have hl6 := (row_facts hm.out).2.1
        have e7 := hK.out.cell (i := k) (by rw [cs, List.length_map, hl6]; exact hkl)
        have f7 := hK.out.frozen k
        rw [cs_getD] at e7
        have hx3 : m.getD k 0 ≤ 3 := by
          have := (row_facts hm.out).2.2.2 _ (getD_mem (zs := cs m) (k := k) (by rw [cs, List.length_map, hl6]; exact hkl))
          rw [cs_getD] at this
          omega
        have HK2 := hide (hK.out.set k ((m.getD k 0 + 1 : Nat) : Int))
        rw [← cs_set] at HK2
        have HB2 := hide (hB.out.setCell (p := ⟨lb, k, none⟩) hlw (.int .i64 ((m.getD k 0 + 1 : Nat) : Int)))
        have HM1 := hide M1
        have HM2 : Hid (p + (k + 1) = pip (m.set k (m.getD k 0 + 1))) := hide (by rw [M2, hpip.out])
        have HM3 : Hid ((m.set k (m.getD k 0 + 1)).sum = i + 1) := hide (by rw [M3, hsum.out])
        have hp2 : p + (k + 1) ≤ 18 := by rw [HM2.out]; exact pip_le M1
        clear M1 M2 M3 hK hB hm hsum hpip hl6
        generalize m.set k (m.getD k 0 + 1) = m2 at *
        generalize m.getD k 0 = x at *
        rw [show ((x + 1 : Nat) : Int) = (x : Int) + 1 by omega] at HK2 HB2
        go_wp2_with fail
        exact ⟨⟨i + 1, p + (k + 1), m2, by congr 1, by congr 1, by congr 1, by omega, by omega, hp2, HM1, HM3, HM2, HK2, HB2⟩, by simp [intOf]; omega⟩
      · have hl3' : ¬ (i : Int) < 3 := by omega
        have HRO1 := hide (Rolls_yes lb 0 6 m hm.out wr (Rd.of_blk hK.out (by rw [cs, List.length_map, (row_facts hm.out).2.1]) (by decide)))
        obtain ⟨F1, F2, F3, F4, F5, F6⟩ := law_facts hm.out
        rw [hsum.out] at F1 F3 F4 F5
        rw [← hpip.out] at F5
        obtain ⟨A, hA⟩ : ∃ A, rA m = A := ⟨_, rfl⟩
        obtain ⟨B, hB0⟩ : ∃ B, rB m = B := ⟨_, rfl⟩
        rw [hA, hB0] at HRO1 F1 F3 F4 F5 F6
        rw [hB0] at F2
        have hAb := F6.1
        have hBb := F6.2
        clear hA hB0 F6
        go_wp2_with fail
        refine HRO1.out.mono ?_
        rintro e w5 ⟨rfl, hb5⟩
        have HB5 := hide (hB.out.trans (hb5.mono hB.out.size))
        clear hb5 HRO1 hB hK hm hsum hpip
        have hA0 : ¬ (A : Int) < 0 := by omega
        have hB1 : ¬ (B : Int) < 1 := by omega
        by_cases hi0 : i = 0
        · have hib : ((i : Int) == 0) = true := by simp [hi0]
          obtain ⟨e1, e2⟩ := F3 hi0
          have hAe : ((A : Int) == 0) = true := by simp [e1]
          have hBe : ((B : Int) == 1) = true := by simp [e2]
          clear e1 e2 hi0 F1 F4 F5 F3 F2
          go_wp2_with fail
          go_ret
          exact ⟨rfl, HB5.out⟩
        · have hib : ((i : Int) == 0) = false := by simpa using hi0
          have hge : (B : Int) ≤ (A : Int) := by have := F1 hi0; omega
          obtain ⟨IB, hIB⟩ : ∃ IB : Nat, i * B = IB := ⟨_, rfl⟩
          obtain ⟨PB, hPB⟩ : ∃ PB : Nat, (p + 1) * B = PB := ⟨_, rfl⟩
          rw [hIB] at F4
          rw [hPB] at F5
          have hIBi : (i : Int) * (B : Int) = (IB : Int) := by rw [← hIB]; simp
          have hPBi : ((p : Int) + 1) * (B : Int) = (PB : Int) := by rw [← hPB]; simp
          have hIBb : IB ≤ 1000000000000000 := by rw [← hIB]; exact Nat.le_trans (Nat.mul_le_mul hi3 hBb) (by decide)
          have hPBb : PB ≤ 10000000000000000 := by rw [← hPB]; exact Nat.le_trans (Nat.mul_le_mul (show p + 1 ≤ 19 by omega) hBb) (by decide)
          have hg4 : (IB : Int) ≤ 4 * (A : Int) := by omega
          have hg2 : 2 * (A : Int) ≤ (PB : Int) := by have := F5 hi0; omega
          clear F1 F3 F4 F5 hIB hPB hi0 F2
          go_wp2_with fail
          refine (picked_any y 6 w5 hy.1 hy.2 (by omega) (by omega)).mono ?_
          rintro e w6 ⟨rfl, hw6⟩
          subst w6
          have hkl := pk_lt y 6 (by omega)
          generalize pk y 6 = k at *
          have hmk := make6 w5
          have K7 : Blk (w5.alloc (.cells (ivs z6).toArray 3)) w5.heap.size 3 z6 := Blk.new w5 3 z6 _ rfl
          have B7 := HB5.out.alloc HB5.out.size (.cells (ivs z6).toArray 3)
          have hs5 := HB5.out.size
          generalize w5.alloc (.cells (ivs z6).toArray 3) = w7 at *
          obtain ⟨ob, hob⟩ : ∃ ob, w5.heap.size = ob := ⟨_, rfl⟩
          rw [hob] at K7 hmk hs5
          clear hob HB5
          have HB7 := hide (B7.setCell (p := ⟨ob, k, none⟩) hs5 (.int .i64 1))
          have e7 := K7.cell (i := k) (by rw [z6_length]; exact hkl)
          have f7 := K7.frozen k
          have HRO := hide (Rolls_yes ob 0 6 (uk k) (uk_mem hkl) _ (Rd.of_blk (uk_cs hkl ▸ K7.set k 1) (by rw [cs, List.length_map, (row_facts (uk_mem hkl)).2.1]) (by decide)))
          clear K7 B7
          rcases (show k = 0 ∨ k = 1 ∨ k = 2 ∨ k = 3 ∨ k = 4 ∨ k = 5 by omega) with rfl | rfl | rfl | rfl | rfl | rfl
          · have hA2 : rA (uk 0) = 1 := by decide +kernel
            have hB2 : rB (uk 0) = 1 := by decide +kernel
            rw [hA2, hB2] at HRO
            clear hA2 hB2
            go_wp2_with fail
            refine HRO.out.mono ?_
            rintro e w9 ⟨rfl, hb9⟩
            have HB9 := hide (HB7.out.trans (hb9.mono HB7.out.size))
            clear hb9 HRO HB7
            go_wp2_with fail
            go_ret
            exact ⟨rfl, HB9.out.alloc HB9.out.size _⟩
          · have hA2 : rA (uk 1) = 1 := by decide +kernel
            have hB2 : rB (uk 1) = 1 := by decide +kernel
            rw [hA2, hB2] at HRO
            clear hA2 hB2
            go_wp2_with fail
            refine HRO.out.mono ?_
            rintro e w9 ⟨rfl, hb9⟩
            have HB9 := hide (HB7.out.trans (hb9.mono HB7.out.size))
            clear hb9 HRO HB7
            go_wp2_with fail
            go_ret
            exact ⟨rfl, HB9.out.alloc HB9.out.size _⟩
          · have hA2 : rA (uk 2) = 1 := by decide +kernel
            have hB2 : rB (uk 2) = 1 := by decide +kernel
            rw [hA2, hB2] at HRO
            clear hA2 hB2
            go_wp2_with fail
            refine HRO.out.mono ?_
            rintro e w9 ⟨rfl, hb9⟩
            have HB9 := hide (HB7.out.trans (hb9.mono HB7.out.size))
            clear hb9 HRO HB7
            go_wp2_with fail
            go_ret
            exact ⟨rfl, HB9.out.alloc HB9.out.size _⟩
          · have hA2 : rA (uk 3) = 19 := by decide +kernel
            have hB2 : rB (uk 3) = 18 := by decide +kernel
            rw [hA2, hB2] at HRO
            clear hA2 hB2
            go_wp2_with fail
            refine HRO.out.mono ?_
            rintro e w9 ⟨rfl, hb9⟩
            have HB9 := hide (HB7.out.trans (hb9.mono HB7.out.size))
            clear hb9 HRO HB7
            go_wp2_with fail
            go_ret
            exact ⟨rfl, HB9.out.alloc HB9.out.size _⟩
          · have hA2 : rA (uk 4) = 41 := by decide +kernel
            have hB2 : rB (uk 4) = 36 := by decide +kernel
            rw [hA2, hB2] at HRO
            clear hA2 hB2
            go_wp2_with fail
            refine HRO.out.mono ?_
            rintro e w9 ⟨rfl, hb9⟩
            have HB9 := hide (HB7.out.trans (hb9.mono HB7.out.size))
            clear hb9 HRO HB7
            go_wp2_with fail
            go_ret
            exact ⟨rfl, HB9.out.alloc HB9.out.size _⟩
          · have hA2 : rA (uk 5) = 5 := by decide +kernel
            have hB2 : rB (uk 5) = 4 := by decide +kernel
            rw [hA2, hB2] at HRO
            clear hA2 hB2
            go_wp2_with fail
            refine HRO.out.mono ?_
            rintro e w9 ⟨rfl, hb9⟩
            have HB9 := hide (HB7.out.trans (hb9.mono HB7.out.size))
            clear hb9 HRO HB7
            go_wp2_with fail
            go_ret
            exact ⟨rfl, HB9.out.alloc HB9.out.size _⟩
    · have hlt' : ¬ (i : Int) < (n : Int) := by omega
      have HRO1 := hide (Rolls_yes lb 0 6 m hm.out wr (Rd.of_blk hK.out (by rw [cs, List.length_map, (row_facts hm.out).2.1]) (by decide)))
      obtain ⟨F1, F2, F3, F4, F5, F6⟩ := law_facts hm.out
      rw [hsum.out] at F1 F3 F4 F5
      rw [← hpip.out] at F5
      obtain ⟨A, hA⟩ : ∃ A, rA m = A := ⟨_, rfl⟩
      obtain ⟨B, hB0⟩ : ∃ B, rB m = B := ⟨_, rfl⟩
      rw [hA, hB0] at HRO1 F1 F3 F4 F5 F6
      rw [hB0] at F2
      have hAb := F6.1
      have hBb := F6.2
      clear hA hB0 F6
      go_wp2_with fail
      refine HRO1.out.mono ?_
      rintro e w5 ⟨rfl, hb5⟩
      have HB5 := hide (hB.out.trans (hb5.mono hB.out.size))
      clear hb5 HRO1 hB hK hm hsum hpip
      have hA0 : ¬ (A : Int) < 0 := by omega
      have hB1 : ¬ (B : Int) < 1 := by omega
      by_cases hi0 : i = 0
      · have hib : ((i : Int) == 0) = true := by simp [hi0]
        obtain ⟨e1, e2⟩ := F3 hi0
        have hAe : ((A : Int) == 0) = true := by simp [e1]
        have hBe : ((B : Int) == 1) = true := by simp [e2]
        clear e1 e2 hi0 F1 F4 F5 F3 F2
        go_wp2_with fail
        go_ret
        exact ⟨rfl, HB5.out⟩
      · have hib : ((i : Int) == 0) = false := by simpa using hi0
        have hge : (B : Int) ≤ (A : Int) := by have := F1 hi0; omega
        obtain ⟨IB, hIB⟩ : ∃ IB : Nat, i * B = IB := ⟨_, rfl⟩
        obtain ⟨PB, hPB⟩ : ∃ PB : Nat, (p + 1) * B = PB := ⟨_, rfl⟩
        rw [hIB] at F4
        rw [hPB] at F5
        have hIBi : (i : Int) * (B : Int) = (IB : Int) := by rw [← hIB]; simp
        have hPBi : ((p : Int) + 1) * (B : Int) = (PB : Int) := by rw [← hPB]; simp
        have hIBb : IB ≤ 1000000000000000 := by rw [← hIB]; exact Nat.le_trans (Nat.mul_le_mul hi3 hBb) (by decide)
        have hPBb : PB ≤ 10000000000000000 := by rw [← hPB]; exact Nat.le_trans (Nat.mul_le_mul (show p + 1 ≤ 19 by omega) hBb) (by decide)
        have hg4 : (IB : Int) ≤ 4 * (A : Int) := by omega
        have hg2 : 2 * (A : Int) ≤ (PB : Int) := by have := F5 hi0; omega
        clear F1 F3 F4 F5 hIB hPB hi0 F2
        go_wp2_with fail
        refine (picked_any y 6 w5 hy.1 hy.2 (by omega) (by omega)).mono ?_
        rintro e w6 ⟨rfl, hw6⟩
        subst w6
        have hkl := pk_lt y 6 (by omega)
        generalize pk y 6 = k at *
        have hmk := make6 w5
        have K7 : Blk (w5.alloc (.cells (ivs z6).toArray 3)) w5.heap.size 3 z6 := Blk.new w5 3 z6 _ rfl
        have B7 := HB5.out.alloc HB5.out.size (.cells (ivs z6).toArray 3)
        have hs5 := HB5.out.size
        generalize w5.alloc (.cells (ivs z6).toArray 3) = w7 at *
        obtain ⟨ob, hob⟩ : ∃ ob, w5.heap.size = ob := ⟨_, rfl⟩
        rw [hob] at K7 hmk hs5
        clear hob HB5
        have HB7 := hide (B7.setCell (p := ⟨ob, k, none⟩) hs5 (.int .i64 1))
        have e7 := K7.cell (i := k) (by rw [z6_length]; exact hkl)
        have f7 := K7.frozen k
        have HRO := hide (Rolls_yes ob 0 6 (uk k) (uk_mem hkl) _ (Rd.of_blk (uk_cs hkl ▸ K7.set k 1) (by rw [cs, List.length_map, (row_facts (uk_mem hkl)).2.1]) (by decide)))
        clear K7 B7
        rcases (show k = 0 ∨ k = 1 ∨ k = 2 ∨ k = 3 ∨ k = 4 ∨ k = 5 by omega) with rfl | rfl | rfl | rfl | rfl | rfl
        · have hA2 : rA (uk 0) = 1 := by decide +kernel
          have hB2 : rB (uk 0) = 1 := by decide +kernel
          rw [hA2, hB2] at HRO
          clear hA2 hB2
          go_wp2_with fail
          refine HRO.out.mono ?_
          rintro e w9 ⟨rfl, hb9⟩
          have HB9 := hide (HB7.out.trans (hb9.mono HB7.out.size))
          clear hb9 HRO HB7
          go_wp2_with fail
          go_ret
          exact ⟨rfl, HB9.out.alloc HB9.out.size _⟩
        · have hA2 : rA (uk 1) = 1 := by decide +kernel
          have hB2 : rB (uk 1) = 1 := by decide +kernel
          rw [hA2, hB2] at HRO
          clear hA2 hB2
          go_wp2_with fail
          refine HRO.out.mono ?_
          rintro e w9 ⟨rfl, hb9⟩
          have HB9 := hide (HB7.out.trans (hb9.mono HB7.out.size))
          clear hb9 HRO HB7
          go_wp2_with fail
          go_ret
          exact ⟨rfl, HB9.out.alloc HB9.out.size _⟩
        · have hA2 : rA (uk 2) = 1 := by decide +kernel
          have hB2 : rB (uk 2) = 1 := by decide +kernel
          rw [hA2, hB2] at HRO
          clear hA2 hB2
          go_wp2_with fail
          refine HRO.out.mono ?_
          rintro e w9 ⟨rfl, hb9⟩
          have HB9 := hide (HB7.out.trans (hb9.mono HB7.out.size))
          clear hb9 HRO HB7
          go_wp2_with fail
          go_ret
          exact ⟨rfl, HB9.out.alloc HB9.out.size _⟩
        · have hA2 : rA (uk 3) = 19 := by decide +kernel
          have hB2 : rB (uk 3) = 18 := by decide +kernel
          rw [hA2, hB2] at HRO
          clear hA2 hB2
          go_wp2_with fail
          refine HRO.out.mono ?_
          rintro e w9 ⟨rfl, hb9⟩
          have HB9 := hide (HB7.out.trans (hb9.mono HB7.out.size))
          clear hb9 HRO HB7
          go_wp2_with fail
          go_ret
          exact ⟨rfl, HB9.out.alloc HB9.out.size _⟩
        · have hA2 : rA (uk 4) = 41 := by decide +kernel
          have hB2 : rB (uk 4) = 36 := by decide +kernel
          rw [hA2, hB2] at HRO
          clear hA2 hB2
          go_wp2_with fail
          refine HRO.out.mono ?_
          rintro e w9 ⟨rfl, hb9⟩
          have HB9 := hide (HB7.out.trans (hb9.mono HB7.out.size))
          clear hb9 HRO HB7
          go_wp2_with fail
          go_ret
          exact ⟨rfl, HB9.out.alloc HB9.out.size _⟩
        · have hA2 : rA (uk 5) = 5 := by decide +kernel
          have hB2 : rB (uk 5) = 4 := by decide +kernel
          rw [hA2, hB2] at HRO
          clear hA2 hB2
          go_wp2_with fail
          refine HRO.out.mono ?_
          rintro e w9 ⟨rfl, hb9⟩
          have HB9 := hide (HB7.out.trans (hb9.mono HB7.out.size))
          clear hb9 HRO HB7
          go_wp2_with fail
          go_ret
          exact ⟨rfl, HB9.out.alloc HB9.out.size _⟩

end Go.Proofs.Ytmboikpcbkiepaa
