/-
  A piece laid at a row's end. No conditions beyond those that each theorem bears.
-/
import Derived.Test.YtjcglpnpdalcjaaCat
import Derived.Deep.RegionHeld3
namespace Go.Proofs.Ytjcglpnpdalcjaa
open Go.RowKit
attribute [local go_sem] build35 run_eq35 guard35

/-- The row with a piece at its end. -/
def longer (ps : List Pc) (p : Pc) (right : Bool) : List Pc := if right then ps ++ [p] else p :: ps
/-- The piece as it is, or else turned. -/
def playD (ps : List Pc) (p : Pc) (right : Bool) : Option (List Pc) :=
  if isR (longer ps p right) then some (longer ps p right) else if isR (longer ps (turn p) right) then some (longer ps (turn p) right) else none

/-- Two pieces in a new block. -/
theorem cells4 (w : World) (x y x' y' : Int) : Rp (w.alloc (.cells #[.int .i64 x, .int .i64 y, .int .i64 x', .int .i64 y'] 35)) (some ⟨w.heap.size, 0, none⟩) 2 2 [(x, y), (x', y')] := by
  refine ⟨rfl, Nat.le_refl _, by unfold maxLen; omega, (fun h => by simp at h), fun _ => ⟨_, _, rfl, fun i hi => ?_⟩⟩
  obtain rfl | rfl : i = 0 ∨ i = 1 := by omega
  · constructor <;> simp [go_sem]
  · constructor <;> simp [go_sem]

theorem joinL (wr : World) (X Y : Int) (a : Option Addr) (n c : Nat) (ps : List Pc) (HR : Rp wr a n c ps) (hn : n ≤ 59) :
    Calls Try.prog 33 #[.slice (some ⟨wr.heap.size + 1 + 1, 0, none⟩) 2 2] (((wr.alloc (.cells #[.int .i64 X, .int .i64 Y] 35)).alloc (.cells #[.int .i64 X, .int .i64 Y] 35)).alloc (.cells #[.slice (some ⟨wr.heap.size + 1, 0, none⟩) 1 1, .slice a n c] 22))
      fun e w' => ∃ a' c', e = .returned (.slice a' (1 + n) c') ∧ Rp w' a' (1 + n) c' ((X, Y) :: ps) ∧ Below wr.heap.size wr w' ∧ wr.heap.size < w'.heap.size ∧ w'.cell? ⟨wr.heap.size, 0, none⟩ = some (.int .i64 X) ∧ w'.cell? ⟨wr.heap.size, 1, none⟩ = some (.int .i64 Y) := by
  have BA : Below wr.heap.size wr (((wr.alloc (.cells #[.int .i64 X, .int .i64 Y] 35)).alloc (.cells #[.int .i64 X, .int .i64 Y] 35)).alloc (.cells #[.slice (some ⟨wr.heap.size + 1, 0, none⟩) 1 1, .slice a n c] 22)) :=
    (((Below.refl _ wr).alloc (Nat.le_refl _) _).alloc (by simp [World.size_alloc]) _).alloc (by simp [World.size_alloc]; omega) _
  have R1 : Rp (((wr.alloc (.cells #[.int .i64 X, .int .i64 Y] 35)).alloc (.cells #[.int .i64 X, .int .i64 Y] 35)).alloc (.cells #[.slice (some ⟨wr.heap.size + 1, 0, none⟩) 1 1, .slice a n c] 22)) (some ⟨wr.heap.size + 1, 0, none⟩) 1 1 [(X, Y)] := by
    have := Rp.one (wr.alloc (.cells #[.int .i64 X, .int .i64 Y] 35)) X Y
    rw [World.size_alloc] at this
    exact this.mono ((Below.refl _ _).alloc (Nat.le_refl _) _)
  refine (concat2 (wr.heap.size + 1 + 1) (some ⟨wr.heap.size + 1, 0, none⟩) 1 1 [(X, Y)] a n c ps _ (by go_simp) (by go_simp) R1 (HR.mono BA) (by omega) (by omega) (by omega)).mono ?_
  rintro e w' ⟨a', c', rfl, hO, hB⟩
  refine ⟨a', c', rfl, Rp.of_own hO, BA.trans (hB.mono BA.size), ?_, ?_, ?_⟩
  · have := hB.size
    simp only [World.size_alloc] at this
    omega
  · exact (hB.cell (by simp [World.size_alloc]; omega)).trans (by go_simp)
  · exact (hB.cell (by simp [World.size_alloc]; omega)).trans (by go_simp)

theorem joinR (wr : World) (X Y : Int) (a : Option Addr) (n c : Nat) (ps : List Pc) (HR : Rp wr a n c ps) (hn : n ≤ 59) :
    Calls Try.prog 33 #[.slice (some ⟨wr.heap.size + 1, 0, none⟩) 2 2] ((wr.alloc (.cells #[.int .i64 X, .int .i64 Y] 35)).alloc (.cells #[.slice a n c, .slice (some ⟨wr.heap.size, 0, none⟩) 1 1] 22))
      fun e w' => ∃ a' c', e = .returned (.slice a' (n + 1) c') ∧ Rp w' a' (n + 1) c' (ps ++ [(X, Y)]) ∧ Below wr.heap.size wr w' := by
  have BA : Below wr.heap.size wr ((wr.alloc (.cells #[.int .i64 X, .int .i64 Y] 35)).alloc (.cells #[.slice a n c, .slice (some ⟨wr.heap.size, 0, none⟩) 1 1] 22)) :=
    ((Below.refl _ wr).alloc (Nat.le_refl _) _).alloc (by simp [World.size_alloc]) _
  have R1 : Rp ((wr.alloc (.cells #[.int .i64 X, .int .i64 Y] 35)).alloc (.cells #[.slice a n c, .slice (some ⟨wr.heap.size, 0, none⟩) 1 1] 22)) (some ⟨wr.heap.size, 0, none⟩) 1 1 [(X, Y)] :=
    (Rp.one wr X Y).mono ((Below.refl _ _).alloc (Nat.le_refl _) _)
  refine (concat2 (wr.heap.size + 1) a n c ps (some ⟨wr.heap.size, 0, none⟩) 1 1 [(X, Y)] _ (by go_simp) (by go_simp) (HR.mono BA) R1 (by omega) (by omega) (by omega)).mono ?_
  rintro e w' ⟨a', c', rfl, hO, hB⟩
  exact ⟨a', c', rfl, Rp.of_own hO, BA.trans (hB.mono BA.size)⟩

/-- What Play answers. -/
def PlayRes (Q : Option (List Pc)) (e : Ending) (w' : World) : Prop := match Q with
  | some L => ∃ a' c', e = .returned (.tuple #[.slice a' L.length c', .int .i64 0]) ∧ Rp w' a' L.length c' L
  | none => e = .returned (.tuple #[.slice none 0 0, .int .i64 10])

set_option maxHeartbeats 8000000 in
theorem Play_ok (a : Option Addr) (n c : Nat) (ps : List Pc) (p : Pc) (right : Bool) (w : World) (h : Rp w a n c ps) (hn : n ≤ 59) (hm : pcsB ps = true) (hp : pcB p = true) (hr : isR ps = true) :
    Calls Try.prog 19 #[.slice a n c, pv p, .bool right] w fun e w' => PlayRes (playD ps p right) e w' ∧ Below w.heap.size w w' := by
  have HH := hide h
  have hln := h.len
  have HF : Hid (fltE ps 59 = 0) := hide (by unfold fltE; rw [if_neg (by omega), hm]; rfl)
  clear h
  obtain ⟨x, y⟩ := p
  unfold pv
  simp only
  generalize hQ : playD ps (x, y) right = Q
  have HQ := hide hQ
  clear hQ
  go_enter Try.func19, Try.ntmps19
  go_wp2_with fail
  have B0 : Below w.heap.size w (w.alloc (.cells #[.int .i64 x, .int .i64 y] 35)) := (Below.refl _ _).alloc (Nat.le_refl _) _
  refine (fault_any a n c ps 59 _ (HH.out.mono B0)).mono ?_
  rintro e w1 ⟨rfl, hB1⟩
  rw [HF.out]
  have c0 : w1.cell? ⟨w.heap.size, 0, none⟩ = some (.int .i64 x) := (hB1.cell (by simp [World.size_alloc])).trans (by go_simp)
  have c1 : w1.cell? ⟨w.heap.size, 1, none⟩ = some (.int .i64 y) := (hB1.cell (by simp [World.size_alloc])).trans (by go_simp)
  have HB1 := hide (B0.trans (hB1.mono B0.size))
  have hs1 : w.heap.size < w1.heap.size := Nat.lt_of_lt_of_le (by simp [World.size_alloc]) hB1.size
  clear B0 hB1
  go_wp2_with fail
  refine (wrongPiece_any (x, y) _).mono ?_
  rintro e w2 ⟨rfl, hB2⟩
  rw [hp]
  have d0 := (hB2.cell (p := ⟨w.heap.size, 0, none⟩) hs1).trans c0
  have d1 := (hB2.cell (p := ⟨w.heap.size, 1, none⟩) hs1).trans c1
  have HB2 := hide (HB1.out.trans (hB2.mono HB1.out.size))
  have hs2 : w.heap.size < w2.heap.size := Nat.lt_of_lt_of_le hs1 hB2.size
  clear c0 c1 hB2 hs1 HB1
  go_wp2_with fail
  refine (isRow_any a n c ps _ (HH.out.mono HB2.out)).mono ?_
  rintro e w3 ⟨rfl, q, hw3⟩
  rw [hr]
  have hB3 : Below w2.heap.size w2 w3 := hw3 ▸ drewN_below _ _ _
  have e0 := (hB3.cell (p := ⟨w.heap.size, 0, none⟩) hs2).trans d0
  have e1 := (hB3.cell (p := ⟨w.heap.size, 1, none⟩) hs2).trans d1
  have HB3 := hide (HB2.out.trans (hB3.mono HB2.out.size))
  have hs3 : w.heap.size < w3.heap.size := Nat.lt_of_lt_of_le hs2 hB3.size
  clear hw3 hB3 HB2 hs2 d0 d1
  go_wp2_with fail
  have HE0 : Hid (∀ W, Below w3.heap.size w3 W → W.cell? ⟨w.heap.size, 0, none⟩ = some (.int .i64 x)) := hide (fun W hW => (hW.cell (p := ⟨w.heap.size, 0, none⟩) hs3).trans e0)
  have HE1 : Hid (∀ W, Below w3.heap.size w3 W → W.cell? ⟨w.heap.size, 1, none⟩ = some (.int .i64 y)) := hide (fun W hW => (hW.cell (p := ⟨w.heap.size, 1, none⟩) hs3).trans e1)
  clear e0 e1
  refine wp_region_held (S := fun W => Below w3.heap.size w3 W) (by kernel_rfl) ?_
  change wpAnyH _ _ _ _ _ _ _ _ (World.drew _)
  have SW : Below w3.heap.size w3 w3.drew := (Below.refl _ w3).drew
  refine wpAnyH_take (i := 0) (v := .agg #[.int .i64 x, .int .i64 y]) rfl (by kernel_rfl) (by kernel_rfl) (by kernel_rfl) (fun _ _ _ h => h) (Or.inl ⟨by rfl, ?_⟩) SW ?_
  · intro W hW
    have f0 := HE0.out W hW
    have f1 := HE1.out W hW
    go_simp
  go_simp
  refine wpAnyH_take (i := 1) (v := .agg #[.int .i64 x, .int .i64 y]) rfl (by kernel_rfl) (by kernel_rfl) (by kernel_rfl) (fun _ _ _ h => h) (Or.inl ⟨by rfl, ?_⟩) SW ?_
  · intro W hW
    have f0 := HE0.out W hW
    have f1 := HE1.out W hW
    go_simp
  go_simp
  refine wpAnyH_take (i := 5) (v := .int .i64 0) rfl (by kernel_rfl) (by kernel_rfl) (by kernel_rfl) (fun _ _ _ h => h) (Or.inl ⟨by rfl, ?_⟩) SW ?_
  · intro W hW
    go_simp
  go_simp
  refine wpAnyH_ready (rs := [2]) (by kernel_rfl) (by simp) ?_
  refine AllReadyH.cons rfl (fun K1 hK1 => ?_) AllReadyH.nil
  go_simp
  refine (turned_any (x, y) _).mono ?_
  rintro e w4 ⟨rfl, hB4⟩
  rw [show pv (turn (x, y)) = Value.agg #[.int .i64 y, .int .i64 x] from rfl]
  refine hK1.out _ _ (SW.trans (hB4.mono SW.size)) (fun SW => ?_)
  clear hK1 K1
  go_simp
  refine wpAnyH_ready (rs := [3]) (by kernel_rfl) (by simp) ?_
  refine AllReadyH.cons rfl (fun K1 hK1 => ?_) AllReadyH.nil
  go_simp
  refine hK1.out _ _ (SW.alloc SW.size _) (fun SW => ?_)
  clear hK1 K1
  go_simp
  refine wpAnyH_take (i := 4) (v := .int .i64 2) rfl (by kernel_rfl) (by kernel_rfl) (by kernel_rfl) (fun _ _ _ h => h) (Or.inl ⟨by rfl, ?_⟩) SW ?_
  · intro W hW
    go_simp
  go_simp
  refine wpAnyH_done (by kernel_rfl) ?_ _
  have HRp := hide (cells4 w4 x y y x)
  have HB5 := hide (HB3.out.trans (SW.mono HB3.out.size))
  have g0 : (w4.alloc (Obj.cells #[.int .i64 x, .int .i64 y, .int .i64 y, .int .i64 x] 35)).cell? ⟨w4.heap.size, 0, none⟩ = some (.int .i64 x) := by go_simp
  have g1 : (w4.alloc (Obj.cells #[.int .i64 x, .int .i64 y, .int .i64 y, .int .i64 x] 35)).cell? ⟨w4.heap.size, 1, none⟩ = some (.int .i64 y) := by go_simp
  have g2 : (w4.alloc (Obj.cells #[.int .i64 x, .int .i64 y, .int .i64 y, .int .i64 x] 35)).cell? ⟨w4.heap.size, 2, none⟩ = some (.int .i64 y) := by go_simp
  have g3 : (w4.alloc (Obj.cells #[.int .i64 x, .int .i64 y, .int .i64 y, .int .i64 x] 35)).cell? ⟨w4.heap.size, 3, none⟩ = some (.int .i64 x) := by go_simp
  have HS5 : Hid (w4.heap.size < (w4.alloc (Obj.cells #[.int .i64 x, .int .i64 y, .int .i64 y, .int .i64 x] 35)).heap.size) := hide (by simp [World.size_alloc])
  generalize w4.alloc (Obj.cells #[.int .i64 x, .int .i64 y, .int .i64 y, .int .i64 x] 35) = w5 at *
  generalize w4.heap.size = b at *
  clear SW hB4 HE0 HE1 HB3 hs3 HRp
  go_wp2_with fail
  go_loopw [27] (fun v wr => ∃ k : Nat, k ≤ 2 ∧ v = .int .i64 k ∧ Hid (Below w.heap.size w wr) ∧ Hid (b < wr.heap.size) ∧ wr.cell? ⟨b, 0, none⟩ = some (.int .i64 x) ∧ wr.cell? ⟨b, 1, none⟩ = some (.int .i64 y) ∧ wr.cell? ⟨b, 2, none⟩ = some (.int .i64 y) ∧ wr.cell? ⟨b, 3, none⟩ = some (.int .i64 x) ∧ Hid (1 ≤ k → isR (longer ps (x, y) right) = false) ∧ Hid (2 ≤ k → isR (longer ps (y, x) right) = false)) (fun v _ => 2 - (intOf v).toNat)
  case atStart => exact ⟨0, by omega, rfl, HB5, HS5, g0, g1, g2, g3, hide (fun h => by omega), hide (fun h => by omega)⟩
  case round =>
    clear g0 g1 g2 g3 HB5 HS5
    obtain ⟨k, hk, rfl, HBr, HSr, g0, g1, g2, g3, H1, H2⟩ := hrel
    by_cases hlt : k < 2
    · have hlt' : (k : Int) < 2 := by omega
      obtain ⟨X, Y, r0, r1, HY, HZ⟩ : ∃ X Y : Int, wr.cell? ⟨b, k * 2, none⟩ = some (.int .i64 X) ∧ wr.cell? ⟨b, k * 2 + 1, none⟩ = some (.int .i64 Y) ∧ Hid (isR (longer ps (X, Y) right) = true → playD ps (x, y) right = some (longer ps (X, Y) right)) ∧ Hid (isR (longer ps (X, Y) right) = false → ((1 ≤ k + 1 → isR (longer ps (x, y) right) = false) ∧ (2 ≤ k + 1 → isR (longer ps (y, x) right) = false))) := by
        obtain rfl | rfl : k = 0 ∨ k = 1 := by omega
        · exact ⟨x, y, g0, g1, hide (fun hb => by rw [playD, if_pos hb]), hide (fun hb => ⟨fun _ => hb, fun h => by omega⟩)⟩
        · exact ⟨y, x, g2, g3, hide (fun hb => by rw [playD, if_neg (by rw [H1.out (by omega)]; simp), show turn (x, y) = (y, x) from rfl, if_pos hb]), hide (fun hb => ⟨fun _ => H1.out (by omega), fun _ => hb⟩)⟩
      cases right with
      | false =>
        go_wp2_with fail
        refine (joinL wr X Y a n c ps (HH.out.mono HBr.out) hn).mono ?_
        rintro e w6 ⟨a6, c6, rfl, hR6, hB6, hs6, p0, p1⟩
        clear hs6 p0 p1 r0 r1
        have HR6 := hide (show Rp w6 a6 (1 + n) c6 (longer ps (X, Y) false) from hR6)
        have hl6 : (longer ps (X, Y) false).length = 1 + n := by simp [longer, hln]; try omega
        have HB6 := hide (HBr.out.trans (hB6.mono HBr.out.size))
        have HLE := hide hB6.size
        have k0 := (hB6.cell (p := ⟨b, 0, none⟩) HSr.out).trans g0
        have k1 := (hB6.cell (p := ⟨b, 1, none⟩) HSr.out).trans g1
        have k2 := (hB6.cell (p := ⟨b, 2, none⟩) HSr.out).trans g2
        have k3 := (hB6.cell (p := ⟨b, 3, none⟩) HSr.out).trans g3
        have HL6 := hide hl6
        clear hR6 hB6 hl6
        cases hb : isR (longer ps (X, Y) false) with
        | true =>
          go_wp2_with fail
          refine (isRow_any _ _ _ _ _ HR6.out).mono ?_
          rintro e w7 ⟨rfl, q7, hw7⟩
          rw [hb]
          have hB7 : Below w6.heap.size w6 w7 := hw7 ▸ drewN_below _ _ _
          have HR7 := hide (HR6.out.mono hB7)
          have HB7 := hide (HB6.out.trans (hB7.mono HB6.out.size))
          clear hB7 HB6 HR6 hw7 k0 k1 k2 k3 g0 g1 g2 g3
          go_wp2_with fail
          refine bodyPost_ret (results_tmp2 rfl _ _ _) rfl ⟨?_, HB7.out⟩
          rw [← HQ.out, HY.out hb]
          have h7 := HR7.out
          rw [← HL6.out] at h7
          exact ⟨_, _, by rw [HL6.out]; rfl, h7⟩
        | false =>
          go_wp2_with fail
          refine (isRow_any _ _ _ _ _ HR6.out).mono ?_
          rintro e w7 ⟨rfl, q7, hw7⟩
          rw [hb]
          have hB7 : Below w6.heap.size w6 w7 := hw7 ▸ drewN_below _ _ _
          have HB7 := hide (HB6.out.trans (hB7.mono HB6.out.size))
          have HS7 := hide (Nat.lt_of_lt_of_le HSr.out (Nat.le_trans HLE.out hB7.size))
          have g0' := (hB7.cell (p := ⟨b, 0, none⟩) (Nat.lt_of_lt_of_le HSr.out HLE.out)).trans k0
          have g1' := (hB7.cell (p := ⟨b, 1, none⟩) (Nat.lt_of_lt_of_le HSr.out HLE.out)).trans k1
          have g2' := (hB7.cell (p := ⟨b, 2, none⟩) (Nat.lt_of_lt_of_le HSr.out HLE.out)).trans k2
          have g3' := (hB7.cell (p := ⟨b, 3, none⟩) (Nat.lt_of_lt_of_le HSr.out HLE.out)).trans k3
          have HNX := hide (HZ.out hb)
          clear hB7 HB6 HR6 hw7 g0 g1 g2 g3 k0 k1 k2 k3
          go_wp2_with fail
          go_roundw
          case rel => exact ⟨k + 1, by omega, by go_num, HB7, HS7, g0', g1', g2', g3', hide HNX.out.1, hide HNX.out.2⟩
          case measure => simp [intOf]; omega
      | true =>
        go_wp2_with fail
        refine (joinL wr X Y a n c ps (HH.out.mono HBr.out) hn).mono ?_
        rintro e w5 ⟨a5, c5, rfl, hR5, hB5, hs5, p0, p1⟩
        have HB5 := hide hB5
        have HRw := hide (HH.out.mono (HBr.out.trans (hB5.mono HBr.out.size)))
        clear hB5 hR5 r0 r1
        go_wp2_with fail
        refine (joinR w5 X Y a n c ps HRw.out hn).mono ?_
        clear hs5 p0 p1
        rintro e w6 ⟨a6, c6, rfl, hR6, hB6'⟩
        have hB6 := HB5.out.trans (hB6'.mono HB5.out.size)
        clear HB5 hB6' HRw
        have HR6 := hide (show Rp w6 a6 (n + 1) c6 (longer ps (X, Y) true) from hR6)
        have hl6 : (longer ps (X, Y) true).length = n + 1 := by simp [longer, hln]; try omega
        have HB6 := hide (HBr.out.trans (hB6.mono HBr.out.size))
        have HLE := hide hB6.size
        have k0 := (hB6.cell (p := ⟨b, 0, none⟩) HSr.out).trans g0
        have k1 := (hB6.cell (p := ⟨b, 1, none⟩) HSr.out).trans g1
        have k2 := (hB6.cell (p := ⟨b, 2, none⟩) HSr.out).trans g2
        have k3 := (hB6.cell (p := ⟨b, 3, none⟩) HSr.out).trans g3
        have HL6 := hide hl6
        clear hR6 hB6 hl6
        cases hb : isR (longer ps (X, Y) true) with
        | true =>
          go_wp2_with fail
          refine (isRow_any _ _ _ _ _ HR6.out).mono ?_
          rintro e w7 ⟨rfl, q7, hw7⟩
          rw [hb]
          have hB7 : Below w6.heap.size w6 w7 := hw7 ▸ drewN_below _ _ _
          have HR7 := hide (HR6.out.mono hB7)
          have HB7 := hide (HB6.out.trans (hB7.mono HB6.out.size))
          clear hB7 HB6 HR6 hw7 k0 k1 k2 k3 g0 g1 g2 g3
          go_wp2_with fail
          refine bodyPost_ret (results_tmp2 rfl _ _ _) rfl ⟨?_, HB7.out⟩
          rw [← HQ.out, HY.out hb]
          have h7 := HR7.out
          rw [← HL6.out] at h7
          exact ⟨_, _, by rw [HL6.out]; rfl, h7⟩
        | false =>
          go_wp2_with fail
          refine (isRow_any _ _ _ _ _ HR6.out).mono ?_
          rintro e w7 ⟨rfl, q7, hw7⟩
          rw [hb]
          have hB7 : Below w6.heap.size w6 w7 := hw7 ▸ drewN_below _ _ _
          have HB7 := hide (HB6.out.trans (hB7.mono HB6.out.size))
          have HS7 := hide (Nat.lt_of_lt_of_le HSr.out (Nat.le_trans HLE.out hB7.size))
          have g0' := (hB7.cell (p := ⟨b, 0, none⟩) (Nat.lt_of_lt_of_le HSr.out HLE.out)).trans k0
          have g1' := (hB7.cell (p := ⟨b, 1, none⟩) (Nat.lt_of_lt_of_le HSr.out HLE.out)).trans k1
          have g2' := (hB7.cell (p := ⟨b, 2, none⟩) (Nat.lt_of_lt_of_le HSr.out HLE.out)).trans k2
          have g3' := (hB7.cell (p := ⟨b, 3, none⟩) (Nat.lt_of_lt_of_le HSr.out HLE.out)).trans k3
          have HNX := hide (HZ.out hb)
          clear hB7 HB6 HR6 hw7 g0 g1 g2 g3 k0 k1 k2 k3
          go_wp2_with fail
          go_roundw
          case rel => exact ⟨k + 1, by omega, by go_num, HB7, HS7, g0', g1', g2', g3', hide HNX.out.1, hide HNX.out.2⟩
          case measure => simp [intOf]; omega
    · obtain rfl : k = 2 := by omega
      have hlt' : ¬ ((2 : Nat) : Int) < 2 := by omega
      go_wp2_with fail
      refine bodyPost_ret (results_tmp2 rfl _ _ _) rfl ⟨?_, HBr.out⟩
      rw [← HQ.out, playD, if_neg (by rw [H1.out (by omega)]; simp), if_neg (by rw [show turn (x, y) = (y, x) from rfl, H2.out (by omega)]; simp)]
      exact rfl

end Go.Proofs.Ytjcglpnpdalcjaa
