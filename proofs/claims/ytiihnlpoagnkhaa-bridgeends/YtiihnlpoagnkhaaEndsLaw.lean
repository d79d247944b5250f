/-
  The law 'BridgeEnds': every way through it ends with true. No conditions beyond those that each theorem bears.
-/
import Derived.Test.YtiihnlpoagnkhaaEndM
namespace Go.Proofs.Ytiihnlpoagnkhaa
open Go.RowKit

theorem five_rd (w : World) : Rd (w.alloc (.cells #[.int .i64 0, .int .i64 7, .int .i64 0, .int .i64 0, .int .i64 0] 3)) (some ⟨w.heap.size, 0, none⟩) 5 5 [0, 7, 0, 0, 0] := by
  refine ⟨rfl, Nat.le_refl _, by unfold maxLen; omega, (fun h => by simp at h), fun _ => ⟨w.heap.size, 0, rfl, fun i hi => ?_⟩⟩
  rcases (by omega : i = 0 ∨ i = 1 ∨ i = 2 ∨ i = 3 ∨ i = 4) with rfl | rfl | rfl | rfl | rfl <;> simp

theorem one_rd (w : World) (x : Int) : Rd (w.alloc (.cells #[.int .i64 x] 3)) (some ⟨w.heap.size, 0, none⟩) 1 1 [x] := by
  refine ⟨rfl, Nat.le_refl _, by unfold maxLen; omega, (fun h => by simp at h), fun _ => ⟨w.heap.size, 0, rfl, fun i hi => ?_⟩⟩
  obtain rfl : i = 0 := by omega
  simp

theorem form_slice {w : World} {base : Nat} {v : Value} {n : Nat} {xs : List Value} (h : w.ownsRow base 3 1 v n xs) : ∃ a c, v = .slice a n c := by
  rcases h.2 with ⟨hv, h0⟩ | ⟨g, cap, cur, hv, _⟩
  · exact ⟨none, 0, by rw [hv, h0]⟩
  · exact ⟨_, _, hv⟩

/-- A contract lies in block b, whatever is made later. -/
def Lies (w : World) (b : Nat) (l s d k : Int) : Prop := w.cell? ⟨b, 0, none⟩ = some (.int .i64 l) ∧ w.cell? ⟨b, 1, none⟩ = some (.int .i64 s) ∧ w.cell? ⟨b, 2, none⟩ = some (.int .i64 d) ∧ w.cell? ⟨b, 3, none⟩ = some (.int .i64 k)

theorem Lies.new (w : World) (l s d k : Int) : Lies (w.alloc (Obj.cells #[.int .i64 l, .int .i64 s, .int .i64 d, .int .i64 k] 34)) w.heap.size l s d k := by
  refine ⟨?_, ?_, ?_, ?_⟩ <;> go_simp

theorem Lies.mono {w w' : World} {b : Nat} {l s d k : Int} (h : Lies w b l s d k) (hB : Below w.heap.size w w') : Lies w' b l s d k := by
  have hb : b < w.heap.size := World.block_lt_of_cell? w _ h.1
  exact ⟨(hB.cell (p := ⟨b, 0, none⟩) hb).trans h.1, (hB.cell (p := ⟨b, 1, none⟩) hb).trans h.2.1, (hB.cell (p := ⟨b, 2, none⟩) hb).trans h.2.2.1, (hB.cell (p := ⟨b, 3, none⟩) hb).trans h.2.2.2⟩

set_option maxRecDepth 100000 in
set_option maxHeartbeats 4000000 in
theorem ends_any (a : Option Addr) (n c : Nat) (zs : List Int) (v : Bool) (t : Int) (ht1 : -9223372036854775808 ≤ t) (ht2 : t ≤ 9223372036854775807) (w : World) (h : Rd w a n c zs) (hr : n * 8 ≤ 140737488351232) :
    Calls Try.prog 6 #[.slice a n c, .bool v, .int .i64 t] w fun e w' => e = .returned (.bool true) ∧ Below w.heap.size w w' := by
  have HH := hide h
  clear h
  have F5 := hide (five_rd w)
  have A5 : Hid (Below w.heap.size w (w.alloc (.cells #[.int .i64 0, .int .i64 7, .int .i64 0, .int .i64 0, .int .i64 0] 3))) := hide ((Below.refl _ _).alloc (Nat.le_refl _) _)
  go_enter Try.func6, Try.ntmps6
  go_wp2_with fail
  refine (Auction_any _ 5 5 [0, 7, 0, 0, 0] _ F5.out).mono ?_
  rintro e w1 ⟨l1, s1, d1, k1, E1, hO1, rfl, hB1⟩
  obtain ⟨rfl, rfl, rfl, rfl⟩ := auc_one hO1
  have HB1 := hide (A5.out.trans (hB1.mono A5.out.size))
  clear hO1 hB1 F5 A5
  have HB2 := hide (HB1.out.alloc HB1.out.size (Obj.cells #[.int .i64 1, .int .i64 4, .int .i64 d1, .int .i64 1] 34))
  go_wp2_with fail
  refine (Auction_any a n c zs _ (HH.out.mono HB2.out)).mono ?_
  rintro e w2 ⟨l, s, d, k, E, hO, rfl, hB2⟩
  have HB3 := hide (HB2.out.trans (hB2.mono HB2.out.size))
  have HO := hide hO
  clear hO hB2 HB2 HB1
  by_cases hE : E = 0
  · subst hE
    have HCT := hide (auc_ct HO.out)
    have HB4 := hide (HB3.out.alloc HB3.out.size (Obj.cells #[.int .i64 l, .int .i64 s, .int .i64 d, .int .i64 k] 34))
    have HLI := hide (Lies.new w2 l s d k)
    have hs4 : w2.heap.size < (w2.alloc (Obj.cells #[.int .i64 l, .int .i64 s, .int .i64 d, .int .i64 k] 34)).heap.size := by rw [World.size_alloc]; omega
    obtain ⟨w4, hw4⟩ : ∃ w4, w2.alloc (Obj.cells #[.int .i64 l, .int .i64 s, .int .i64 d, .int .i64 k] 34) = w4 := ⟨_, rfl⟩
    rw [hw4] at HB4 HLI hs4
    go_wp2_with fail
    refine (kints_own a n c zs w4 (HH.out.mono HB4.out) hr).mono ?_
    rintro e w5 ⟨a5, c5, rfl, hown5, hB5⟩
    have HO5 := hide hown5
    have HB5 := hide (HB4.out.trans (hB5.mono HB4.out.size))
    have HL5 := hide (HLI.out.mono hB5)
    have HLI4 := hide HLI.out
    have hs5 := hB5.size
    clear hown5 hw4 HLI
    go_wp2_with (at_builtin; refine wpList_append_rd _ rfl (.tmp 51) (.tmp 52) rfl w4.heap.size _ n zs rfl (HO5.out.alloc _) _ 1 1 [0] rfl (one_rd _ _) (by omega) (by rw [World.size_alloc]; omega) ?_)
    intro v' w6 hO6 hG6
    obtain ⟨a6, c6, hv6⟩ := form_slice hO6
    subst hv6
    have hb0 : Below w4.heap.size w4 (w5.alloc (.cells #[.int .i64 0] 3)) := hB5.alloc hB5.size _
    have HB46 := hide (hb0.grown hG6 hb0.size (fun j hj => (HO5.out.lt j hj).1))
    have HR6 : Hid (Rd w6 a6 (n + 1) c6 (zs ++ [0])) := hide (by
      have := hO6
      rw [show List.map (Value.int .i64) zs ++ [Value.int .i64 0] = (zs ++ [0]).map (Value.int .i64) by simp] at this
      exact Rd.of_own this)
    have HL6 := hide (HLI4.out.mono HB46.out)
    have HB6 := hide (HB4.out.trans (HB46.out.mono HB4.out.size))
    clear hO6 hG6 hb0 HO5 hB5 HB5 HL5
    go_wp2_with fail
    refine (Auction_any a6 (n + 1) c6 (zs ++ [0]) w6 HR6.out).mono ?_
    rintro e w7 ⟨l7, s7, d7, k7, E7, hO7, rfl, hB7⟩
    obtain rfl := auc_over HO.out hO7
    have HL7 := HL6.out.mono hB7
    have HB7 := hide (HB6.out.trans (hB7.mono HB6.out.size))
    have HL8 := hide (HL7.mono ((Below.refl _ _).alloc (Nat.le_refl _) (Obj.cells #[.int .i64 l7, .int .i64 s7, .int .i64 d7, .int .i64 k7] 34)))
    have HB8 := hide (HB7.out.alloc HB7.out.size (Obj.cells #[.int .i64 l7, .int .i64 s7, .int .i64 d7, .int .i64 k7] 34))
    obtain ⟨w8, hw8⟩ : ∃ w8, w7.alloc (Obj.cells #[.int .i64 l7, .int .i64 s7, .int .i64 d7, .int .i64 k7] 34) = w8 := ⟨_, rfl⟩
    rw [hw8] at HL8 HB8
    have PK := hide (picked_any t 13 w8 ht1 ht2 (by omega) (by omega))
    have hpk := pk_lt t 13 (by omega)
    clear hO7 HL7 hB7 HL6 HB6 HB7 HR6 HB46
    go_wp2_with fail
    refine PK.out.mono ?_
    rintro e w9 ⟨rfl, hw9⟩
    subst w9
    generalize pk t 13 = tr at *
    obtain ⟨l', s', d', rfl, rfl, rfl, h1, h2, h3, h4, h5, h6⟩ := isCt_nat l s d k HCT.out
    have SC1 := hide (Score_good l' s' d' tr k v HCT.out (by omega))
    have SC2 := hide (Score_good l' s' d' (tr + 1) k v HCT.out (by omega))
    have hlt := scN_lt l' s' d' tr v
    obtain ⟨x, hx⟩ : ∃ x, scN l' s' d' v tr = x := ⟨_, rfl⟩
    obtain ⟨y, hy⟩ : ∃ y, scN l' s' d' v (tr + 1) = y := ⟨_, rfl⟩
    rw [hx] at SC1 hlt
    rw [hy] at SC2 hlt
    obtain ⟨q0, q1, q2, q3⟩ := HL8.out
    clear hx hy PK hw8
    go_wp2_with fail
    refine (SC1.out _).mono ?_
    rintro e w9 ⟨rfl, hB9⟩
    have HL9 := hide (HL8.out.mono hB9)
    have HB9 := hide (HB8.out.trans (hB9.mono HB8.out.size))
    obtain ⟨y0, y1, y2, y3⟩ := HL9.out
    clear q0 q1 q2 q3 hB9 HL8 HB8
    have et : ((tr + 1 : Nat) : Int) = (tr : Int) + 1 := by omega
    rw [et] at SC2
    clear et
    go_wp2_with fail
    refine (SC2.out _).mono ?_
    rintro e w10 ⟨rfl, hB10⟩
    have HB10 := hide (HB9.out.trans (hB10.mono HB9.out.size))
    obtain ⟨p0, p1, p2, p3⟩ := HL9.out.mono hB10
    have g1 : (1 : Int) ≤ (l' : Int) := by omega
    have g7 : (l' : Int) ≤ 7 := by omega
    have e1 : decide ((1 : Int) ≤ (l' : Int)) = true := by simp; omega
    have e2 : decide (x < y) = true := by simp; omega
    clear y0 y1 y2 y3 hB10 HL9 HB9
    go_wp2
    go_ret
    exact ⟨rfl, HB10.out⟩
  · have hz : l = 0 ∧ s = 0 ∧ d = 0 ∧ k = 0 := by
      have hO := HO.out
      by_cases h2 : (auRun zs 0 ⟨0, 0, 0, 0⟩).2 = 0
      · cases e : (auRun zs 0 ⟨0, 0, 0, 0⟩).1.over with
        | false => have := hO.more h2 e; omega
        | true =>
          by_cases hb : (auRun zs 0 ⟨0, 0, 0, 0⟩).1.bid = 0
          · have := hO.none h2 e hb; omega
          · have := (hO.ok h2 e hb).2.2.2.1; omega
      · have := hO.bad h2; omega
    obtain ⟨rfl, rfl, rfl, rfl⟩ := hz
    have bE : (E != 0) = true := by simpa using hE
    clear HO hE
    go_wp2
    go_ret
    exact ⟨rfl, HB3.out.alloc HB3.out.size _⟩

end Go.Proofs.Ytiihnlpoagnkhaa
