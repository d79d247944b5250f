/-
  What the reference's BestFive answers: the same five as poker.best's. No conditions beyond those that each theorem bears.
-/
import Derived.Test.YtdhacmcdbpojlaaMath2
import Derived.Test.YtdhacmcdbpojlaaRef1
namespace Go.Proofs.Ytdhacmcdbpojlaa
open Go.RowKit Go.Shelf

def frm (n x : Nat) : List Nat := List.range' x (n - x)

theorem frm_cons {n x : Nat} (h : x < n) : frm n x = x :: frm n (x + 1) := by
  unfold frm
  rw [show n - x = (n - (x + 1)) + 1 by omega, List.range'_succ]

theorem frm_end {n x : Nat} (h : n ≤ x) : frm n x = [] := by
  unfold frm
  rw [show n - x = 0 by omega]; rfl

theorem comb_nil (k : Nat) : comb (k + 1) [] = [] := rfl

/-- What is to come of lists that begin so. -/
def togo (k n : Nat) (pre : List Nat) (x : Nat) : List (List Nat) := (comb k (frm n x)).map (pre ++ ·)

theorem togo_step {k n : Nat} (pre : List Nat) {x : Nat} (h : x < n) : togo (k + 1) n pre x = togo k n (pre ++ [x]) (x + 1) ++ togo (k + 1) n pre (x + 1) := by
  simp only [togo]
  rw [frm_cons h]
  simp only [comb, List.map_append, List.map_map]
  congr 1
  apply List.map_congr_left
  intro l _
  simp

theorem togo_end {k n : Nat} (pre : List Nat) {x : Nat} (h : n ≤ x) : togo (k + 1) n pre x = [] := by
  simp only [togo]
  rw [frm_end h, comb_nil]; rfl

theorem togo_one {n : Nat} (pre : List Nat) (x : Nat) : togo 0 n pre x = [pre] := by
  simp [togo, comb]

def bestG (hs : List (List Nat)) : Int × List Nat := hs.foldl bestS (-1, [])

theorem bestG_snoc (hs : List (List Nat)) (h : List Nat) : bestG (hs ++ [h]) = bestS (bestG hs) h := by simp [bestG]

theorem bestG_eq (h : List Nat) (hs : List (List Nat)) : bestG (h :: hs) = bestF (h :: hs) := by
  have h1 : bestS (-1, []) h = bestS (-1, [0, 0, 0, 0, 0]) h := by
    unfold bestS
    rw [if_pos (by simp; omega), if_pos (by simp; omega)]
  simp only [bestG, bestF, List.foldl_cons, h1]

theorem bestG_bd (hs : List (List Nat)) : -1 ≤ (bestG hs).1 := by
  suffices ∀ (hs : List (List Nat)) (p : Int × List Nat), -1 ≤ p.1 → -1 ≤ (hs.foldl bestS p).1 from this hs _ (by simp)
  intro hs
  induction hs with
  | nil => intro p hp; exact hp
  | cons h hs ih =>
    intro p hp
    refine ih _ ?_
    unfold bestS
    split
    · show (-1 : Int) ≤ (valL h : Int)
      omega
    · exact hp

/-- Where the search stands when 'done' has been looked at. -/
def St (zs : List Nat) (w : World) (done : List (List Nat)) (v5 v6 : Value) (wr : World) : Prop :=
  ∃ ad m cc, v5 = .int .i64 (bestG (done.map (pick zs))).1 ∧ v6 = .slice ad m cc ∧ Hid (Rd wr ad m cc (toI (bestG (done.map (pick zs))).2)) ∧ Hid (Below w.heap.size w wr)

theorem pick_nodup {zs : List Nat} (hn : zs.Nodup) {A B C D E : Nat} (h1 : A < B) (h2 : B < C) (h3 : C < D) (h4 : D < E) (h5 : E < zs.length) :
    [zs.getD A 0, zs.getD B 0, zs.getD C 0, zs.getD D 0, zs.getD E 0].Nodup := by
  have key : ∀ i j, i < j → j < zs.length → ¬ zs.getD i 0 = zs.getD j 0 := by
    intro i j hij hj e
    have hi : i < zs.length := by omega
    simp only [List.getD, hi, hj, List.getElem?_eq_getElem, Option.getD_some] at e
    exact (List.pairwise_iff_getElem.1 hn) i j hi hj hij e
  have k1 := key A B (by omega) (by omega)
  have k2 := key A C (by omega) (by omega)
  have k3 := key A D (by omega) (by omega)
  have k4 := key A E (by omega) (by omega)
  have k5 := key B C (by omega) (by omega)
  have k6 := key B D (by omega) (by omega)
  have k7 := key B E (by omega) (by omega)
  have k8 := key C D (by omega) (by omega)
  have k9 := key C E (by omega) (by omega)
  have k10 := key D E (by omega) (by omega)
  simp only [List.nodup_cons, List.mem_cons, List.not_mem_nil, or_false, not_or, not_false_eq_true, List.nodup_nil, and_true]
  exact ⟨⟨k1, k2, k3, k4⟩, ⟨k5, k6, k7⟩, ⟨k8, k9⟩, k10⟩

set_option maxRecDepth 100000 in
set_option maxHeartbeats 8000000 in
theorem BestFive_any (x : Option Addr) (n c : Nat) (zs : List Nat) (h5 : 5 ≤ n) (h7 : n ≤ 7) (hz : ∀ i, zs.getD i 0 < 52) (hnd : zs.Nodup) (w : World) (hRd : Rd w x n c (toI zs)) :
    Calls Try.prog 13 #[.slice x n c] w fun e w' => ∃ ad m cc, e = .returned (.tuple #[.int .i64 (bestG ((comb 5 (List.range n)).map (pick zs))).1, .slice ad m cc]) ∧ Rd w' ad m cc (toI (bestG ((comb 5 (List.range n)).map (pick zs))).2) ∧ Below w.heap.size w w' := by
  obtain ⟨bx, ox, rfl, hcx⟩ := hRd.cells (by omega)
  have hbl : bx < w.heap.size := World.block_lt_of_cell? w _ (hcx 0 (by omega))
  have hcp := hRd.cap
  have hcm := hRd.max
  unfold maxLen at hcm
  have hzl : zs.length = n := by have := hRd.len; rwa [toI_length] at this
  have HCX : Hid (∀ i, i < n → w.cell? ⟨bx, ox + i, none⟩ = some (.int .i64 (zs.getD i 0))) := fun i hi => by rw [hcx i hi, toI_getD]
  have HZL := hide hzl
  have HND := hide hnd
  have HZ := hide hz
  obtain ⟨total, htot⟩ : ∃ total, comb 5 (List.range n) = total := ⟨_, rfl⟩
  have HT0 : Hid (togo 5 n [] 0 = total) := by
    show _ = _
    rw [← htot, togo, frm, Nat.sub_zero, ← List.range_eq_range']
    simp
  rw [htot]
  clear hcx hRd hzl hnd hz htot
  go_enter Try.func13, Try.ntmps13
  go_wp2
  obtain ⟨rest0, hrest0⟩ : ∃ r : List (List Nat), ([] : List (List Nat)) = r := ⟨_, rfl⟩
  have HR0 : Hid (([] : List (List Nat)) ++ togo 5 n [] 0 ++ rest0 = total) := by
    show _ = _
    rw [List.nil_append, ← HT0.out, ← hrest0]
    exact List.append_nil _
  have HX0 := hide hrest0
  clear hrest0
  go_loopw [5, 6, 7] (fun v5 v6 u wr => ∃ (A : Nat) (done : List (List Nat)), u = .int .i64 A ∧ Hid (0 ≤ A ∧ A ≤ n) ∧ Hid (St zs w done v5 v6 wr) ∧ (∃ y, v5 = .int .i64 y) ∧ (∃ ad m cc, v6 = .slice ad m cc) ∧ Hid (done ++ togo 5 n [] A ++ rest0 = total)) (fun _ _ u _ => n - (intOf u).toNat)
  case atStart => exact ⟨0, [], by rfl, ⟨by omega, by omega⟩, ⟨none, 0, 0, rfl, rfl, Rd.of_nil _, Below.refl _ _⟩, ⟨_, rfl⟩, ⟨_, _, _, rfl⟩, HR0.out⟩
  case round =>
    obtain ⟨A, done, rfl, hA, hSt, ⟨y, rfl⟩, ⟨ad, m, cc, rfl⟩, hEq⟩ := hrel
    obtain ⟨hA1, hA2⟩ := hA.out
    by_cases hltA : A < n
    · have hltA' : (A : Int) < (n : Int) := by omega
      obtain ⟨rest1, hrest1⟩ : ∃ r, togo 5 n [] (A + 1) ++ rest0 = r := ⟨_, rfl⟩
      have HR1 : Hid (done ++ togo 4 n [A] (A + 1) ++ rest1 = total) := by
        show _ = _
        rw [← hrest1, ← hEq.out, togo_step [] hltA]
        simp only [List.nil_append, List.append_assoc]
      have HX1 := hide hrest1
      clear hrest1 hEq
      go_wp2
      go_loopw [5, 6, 8] (fun v5 v6 u wr => ∃ (B : Nat) (done : List (List Nat)), u = .int .i64 B ∧ Hid (A + 1 ≤ B ∧ B ≤ n) ∧ Hid (St zs w done v5 v6 wr) ∧ (∃ y, v5 = .int .i64 y) ∧ (∃ ad m cc, v6 = .slice ad m cc) ∧ Hid (done ++ togo 4 n [A] B ++ rest1 = total)) (fun _ _ u _ => n - (intOf u).toNat)
      case atStart => exact ⟨A + 1, done, by go_num, ⟨by omega, by omega⟩, hSt.out, ⟨_, rfl⟩, ⟨_, _, _, rfl⟩, HR1.out⟩
      case round =>
        obtain ⟨B, done, rfl, hB, hSt, ⟨y, rfl⟩, ⟨ad, m, cc, rfl⟩, hEq⟩ := hrel
        obtain ⟨hB1, hB2⟩ := hB.out
        by_cases hltB : B < n
        · have hltB' : (B : Int) < (n : Int) := by omega
          obtain ⟨rest2, hrest2⟩ : ∃ r, togo 4 n [A] (B + 1) ++ rest1 = r := ⟨_, rfl⟩
          have HR2 : Hid (done ++ togo 3 n [A, B] (B + 1) ++ rest2 = total) := by
            show _ = _
            rw [← hrest2, ← hEq.out, togo_step [A] hltB]
            simp only [List.nil_append, List.cons_append, List.append_assoc]
          have HX2 := hide hrest2
          clear hrest2 hEq
          go_wp2
          go_loopw [5, 6, 9] (fun v5 v6 u wr => ∃ (C : Nat) (done : List (List Nat)), u = .int .i64 C ∧ Hid (B + 1 ≤ C ∧ C ≤ n) ∧ Hid (St zs w done v5 v6 wr) ∧ (∃ y, v5 = .int .i64 y) ∧ (∃ ad m cc, v6 = .slice ad m cc) ∧ Hid (done ++ togo 3 n [A, B] C ++ rest2 = total)) (fun _ _ u _ => n - (intOf u).toNat)
          case atStart => exact ⟨B + 1, done, by go_num, ⟨by omega, by omega⟩, hSt.out, ⟨_, rfl⟩, ⟨_, _, _, rfl⟩, HR2.out⟩
          case round =>
            obtain ⟨C, done, rfl, hC, hSt, ⟨y, rfl⟩, ⟨ad, m, cc, rfl⟩, hEq⟩ := hrel
            obtain ⟨hC1, hC2⟩ := hC.out
            by_cases hltC : C < n
            · have hltC' : (C : Int) < (n : Int) := by omega
              obtain ⟨rest3, hrest3⟩ : ∃ r, togo 3 n [A, B] (C + 1) ++ rest2 = r := ⟨_, rfl⟩
              have HR3 : Hid (done ++ togo 2 n [A, B, C] (C + 1) ++ rest3 = total) := by
                show _ = _
                rw [← hrest3, ← hEq.out, togo_step [A, B] hltC]
                simp only [List.nil_append, List.cons_append, List.append_assoc]
              have HX3 := hide hrest3
              clear hrest3 hEq
              go_wp2
              go_loopw [5, 6, 10] (fun v5 v6 u wr => ∃ (D : Nat) (done : List (List Nat)), u = .int .i64 D ∧ Hid (C + 1 ≤ D ∧ D ≤ n) ∧ Hid (St zs w done v5 v6 wr) ∧ (∃ y, v5 = .int .i64 y) ∧ (∃ ad m cc, v6 = .slice ad m cc) ∧ Hid (done ++ togo 2 n [A, B, C] D ++ rest3 = total)) (fun _ _ u _ => n - (intOf u).toNat)
              case atStart => exact ⟨C + 1, done, by go_num, ⟨by omega, by omega⟩, hSt.out, ⟨_, rfl⟩, ⟨_, _, _, rfl⟩, HR3.out⟩
              case round =>
                obtain ⟨D, done, rfl, hD, hSt, ⟨y, rfl⟩, ⟨ad, m, cc, rfl⟩, hEq⟩ := hrel
                obtain ⟨hD1, hD2⟩ := hD.out
                by_cases hltD : D < n
                · have hltD' : (D : Int) < (n : Int) := by omega
                  obtain ⟨rest4, hrest4⟩ : ∃ r, togo 2 n [A, B, C] (D + 1) ++ rest3 = r := ⟨_, rfl⟩
                  have HR4 : Hid (done ++ togo 1 n [A, B, C, D] (D + 1) ++ rest4 = total) := by
                    show _ = _
                    rw [← hrest4, ← hEq.out, togo_step [A, B, C] hltD]
                    simp only [List.nil_append, List.cons_append, List.append_assoc]
                  have HX4 := hide hrest4
                  clear hrest4 hEq
                  go_wp2
                  go_loopw [5, 6, 11] (fun v5 v6 u wr => ∃ (E : Nat) (done : List (List Nat)), u = .int .i64 E ∧ Hid (D + 1 ≤ E ∧ E ≤ n) ∧ Hid (St zs w done v5 v6 wr) ∧ (∃ y, v5 = .int .i64 y) ∧ (∃ ad m cc, v6 = .slice ad m cc) ∧ Hid (done ++ togo 1 n [A, B, C, D] E ++ rest4 = total)) (fun _ _ u _ => n - (intOf u).toNat)
                  case atStart => exact ⟨D + 1, done, by go_num, ⟨by omega, by omega⟩, hSt.out, ⟨_, rfl⟩, ⟨_, _, _, rfl⟩, HR4.out⟩
                  case round =>
                    obtain ⟨E, done, rfl, hE, hSt, ⟨y, rfl⟩, ⟨ad, m, cc, rfl⟩, hEq⟩ := hrel
                    obtain ⟨hE1, hE2⟩ := hE.out
                    by_cases hltE : E < n
                    · have hltE' : (E : Int) < (n : Int) := by omega
                      obtain ⟨ad', m', cc', e5, e6, hR6, hb⟩ := hSt.out
                      have cA : wr.cell? ⟨bx, ox + A, none⟩ = some (.int .i64 (zs.getD A 0)) := by
                        rw [hb.out.cell (p := ⟨bx, ox + A, none⟩) hbl]; exact HCX.out A (by omega)
                      have zA := HZ.out A
                      have cB : wr.cell? ⟨bx, ox + B, none⟩ = some (.int .i64 (zs.getD B 0)) := by
                        rw [hb.out.cell (p := ⟨bx, ox + B, none⟩) hbl]; exact HCX.out B (by omega)
                      have zB := HZ.out B
                      have cC : wr.cell? ⟨bx, ox + C, none⟩ = some (.int .i64 (zs.getD C 0)) := by
                        rw [hb.out.cell (p := ⟨bx, ox + C, none⟩) hbl]; exact HCX.out C (by omega)
                      have zC := HZ.out C
                      have cD : wr.cell? ⟨bx, ox + D, none⟩ = some (.int .i64 (zs.getD D 0)) := by
                        rw [hb.out.cell (p := ⟨bx, ox + D, none⟩) hbl]; exact HCX.out D (by omega)
                      have zD := HZ.out D
                      have cE : wr.cell? ⟨bx, ox + E, none⟩ = some (.int .i64 (zs.getD E 0)) := by
                        rw [hb.out.cell (p := ⟨bx, ox + E, none⟩) hbl]; exact HCX.out E (by omega)
                      have zE := HZ.out E
                      have hnd5 := pick_nodup HND.out (A := A) (B := B) (C := C) (D := D) (E := E) (by omega) (by omega) (by omega) (by omega) (by rw [HZL.out]; omega)
                      have hpk : pick zs [A, B, C, D, E] = [zs.getD A 0, zs.getD B 0, zs.getD C 0, zs.getD D 0, zs.getD E 0] := rfl
                      obtain ⟨yA, qA⟩ : ∃ q, zs.getD A 0 = q := ⟨_, rfl⟩
                      rw [qA] at cA zA hnd5 hpk
                      clear qA
                      obtain ⟨yB, qB⟩ : ∃ q, zs.getD B 0 = q := ⟨_, rfl⟩
                      rw [qB] at cB zB hnd5 hpk
                      clear qB
                      obtain ⟨yC, qC⟩ : ∃ q, zs.getD C 0 = q := ⟨_, rfl⟩
                      rw [qC] at cC zC hnd5 hpk
                      clear qC
                      obtain ⟨yD, qD⟩ : ∃ q, zs.getD D 0 = q := ⟨_, rfl⟩
                      rw [qD] at cD zD hnd5 hpk
                      clear qD
                      obtain ⟨yE, qE⟩ : ∃ q, zs.getD E 0 = q := ⟨_, rfl⟩
                      rw [qE] at cE zE hnd5 hpk
                      clear qE
                      obtain ⟨hval, hgood⟩ := valN_ref yA yB yC yD yE (by simp; omega) hnd5
                      have HHV := hide (fun w1 h1 => HandValue_any (some ⟨wr.heap.size, 0, none⟩) 5 yA yB yC yD yE (by simp; omega) hgood w1 h1)
                      rw [← hval] at HHV
                      simp only [Value.int.injEq, true_and] at e5
                      simp only [Value.slice.injEq] at e6
                      obtain ⟨rfl, rfl, rfl⟩ := e6
                      have HE5 := hide e5
                      have HPK := hide hpk
                      have HB := hide hb.out
                      have HR6 := hide hR6.out
                      have ybd : -1 ≤ y := by rw [e5]; exact bestG_bd _
                      clear hval hgood hnd5 hpk hb hR6 e5
                      go_wp2
                      go_region
                      obtain ⟨w4, hw4⟩ : ∃ w4, (wr.alloc (Obj.cells #[Value.int IntKind.i64 yA, Value.int IntKind.i64 yB, Value.int IntKind.i64 yC, Value.int IntKind.i64 yD, Value.int IntKind.i64 yE] 3)).drew = w4 := ⟨_, rfl⟩
                      rw [hw4]
                      have KB : Blk w4 wr.heap.size 3 [yA, yB, yC, yD, yE] := by rw [← hw4]; exact blk_drew (Blk.new wr 3 [yA, yB, yC, yD, yE] _ rfl)
                      have B4 : Below wr.heap.size wr w4 := by rw [← hw4]; exact ((Below.refl _ wr).alloc (Nat.le_refl _) _).drew
                      have R5 : Rd w4 (some ⟨wr.heap.size, 0, none⟩) 5 5 (toI [yA, yB, yC, yD, yE]) := by
                        refine ⟨rfl, by omega, by unfold maxLen; omega, (fun h => by simp at h), fun _ => ⟨wr.heap.size, 0, rfl, fun i hi => ?_⟩⟩
                        rw [Nat.zero_add, toI_getD]
                        exact KB.cell (by simpa using hi)
                      have HR5 := hide R5
                      have HB4 := hide B4
                      have HEQ2 : Hid ((done ++ [[A, B, C, D, E]]) ++ togo 1 n [A, B, C, D] (E + 1) ++ rest4 = total) := by
                        show _ = _
                        rw [← hEq.out, togo_step [A, B, C, D] hltE, togo_one]
                        simp only [List.nil_append, List.cons_append, List.append_assoc]
                      have HBG : Hid (bestG ((done ++ [[A, B, C, D, E]]).map (pick zs)) = bestS (bestG (done.map (pick zs))) [yA, yB, yC, yD, yE]) := by
                        show _ = _
                        rw [List.map_append, List.map_cons, List.map_nil, HPK.out, bestG_snoc]
                      clear R5 B4 KB hw4 hEq hSt cA cB cC cD cE
                      go_wp2_with fail
                      refine (HHV.out w4 HR5.out).mono ?_
                      rintro e w5 ⟨rfl, hB5⟩
                      obtain ⟨vv, hvv⟩ : ∃ vv, valN yA yB yC yD yE = vv := ⟨_, rfl⟩
                      simp only [hvv]
                      have HVV := hide hvv
                      have HRH := hide (HR5.out.mono hB5)
                      have HBF : Hid (Below w.heap.size w w5) := (HB.out.trans (HB4.out.mono HB.out.size)).trans (hB5.mono (Nat.le_trans HB.out.size HB4.out.size))
                      have HR7 := hide (HR6.out.mono (HB4.out.trans (hB5.mono HB4.out.size)))
                      clear hvv hB5 HR5 HR6 HB HB4 HHV
                      by_cases hgt : y < (vv : Int)
                      · have HBS : Hid (bestS (bestG (done.map (pick zs))) [yA, yB, yC, yD, yE] = ((vv : Int), [yA, yB, yC, yD, yE])) := by
                          show _ = _
                          rw [bestS, if_pos]
                          · show ((valN yA yB yC yD yE : Int), _) = _
                            rw [HVV.out]
                          · rw [← HE5.out]
                            show y < (valN yA yB yC yD yE : Int)
                            rw [HVV.out]; exact hgt
                        go_wp2
                        go_roundw
                        case rel => exact ⟨E + 1, done ++ [[A, B, C, D, E]], by go_num, ⟨by omega, by omega⟩, ⟨_, _, _, by rw [HBG.out, HBS.out], rfl, by rw [HBG.out, HBS.out]; exact HRH.out, HBF.out⟩, ⟨_, rfl⟩, ⟨_, _, _, rfl⟩, HEQ2.out⟩
                        case measure => simp [intOf]; omega
                      · have HBS : Hid (bestS (bestG (done.map (pick zs))) [yA, yB, yC, yD, yE] = bestG (done.map (pick zs))) := by
                          show _ = _
                          rw [bestS, if_neg]
                          rw [← HE5.out]
                          show ¬ y < (valN yA yB yC yD yE : Int)
                          rw [HVV.out]; exact hgt
                        go_wp2
                        go_roundw
                        case rel => exact ⟨E + 1, done ++ [[A, B, C, D, E]], by go_num, ⟨by omega, by omega⟩, ⟨_, _, _, by rw [HBG.out, HBS.out, ← HE5.out], rfl, by rw [HBG.out, HBS.out]; exact HR7.out, HBF.out⟩, ⟨_, rfl⟩, ⟨_, _, _, rfl⟩, HEQ2.out⟩
                        case measure => simp [intOf]; omega
                    · have eE : E = n := by omega
                      have hlt' : ¬ (E : Int) < (n : Int) := by omega
                      have HEN : Hid (done ++ togo 2 n [A, B, C] (D + 1) ++ rest3 = total) := by
                        show _ = _
                        have := hEq.out
                        rw [togo_end [A, B, C, D] (by omega), List.append_nil, ← HX4.out] at this
                        rw [← this]; simp only [List.append_assoc]
                      clear hEq eE
                      go_wp2
                      go_roundw
                      case rel => exact ⟨D + 1, done, by go_num, ⟨by omega, by omega⟩, hSt.out, ⟨_, rfl⟩, ⟨_, _, _, rfl⟩, HEN.out⟩
                      case measure => simp [intOf]; omega
                · have eD : D = n := by omega
                  have hlt' : ¬ (D : Int) < (n : Int) := by omega
                  have HEN : Hid (done ++ togo 3 n [A, B] (C + 1) ++ rest2 = total) := by
                    show _ = _
                    have := hEq.out
                    rw [togo_end [A, B, C] (by omega), List.append_nil, ← HX3.out] at this
                    rw [← this]; simp only [List.append_assoc]
                  clear hEq eD
                  go_wp2
                  go_roundw
                  case rel => exact ⟨C + 1, done, by go_num, ⟨by omega, by omega⟩, hSt.out, ⟨_, rfl⟩, ⟨_, _, _, rfl⟩, HEN.out⟩
                  case measure => simp [intOf]; omega
            · have eC : C = n := by omega
              have hlt' : ¬ (C : Int) < (n : Int) := by omega
              have HEN : Hid (done ++ togo 4 n [A] (B + 1) ++ rest1 = total) := by
                show _ = _
                have := hEq.out
                rw [togo_end [A, B] (by omega), List.append_nil, ← HX2.out] at this
                rw [← this]; simp only [List.append_assoc]
              clear hEq eC
              go_wp2
              go_roundw
              case rel => exact ⟨B + 1, done, by go_num, ⟨by omega, by omega⟩, hSt.out, ⟨_, rfl⟩, ⟨_, _, _, rfl⟩, HEN.out⟩
              case measure => simp [intOf]; omega
        · have eB : B = n := by omega
          have hlt' : ¬ (B : Int) < (n : Int) := by omega
          have HEN : Hid (done ++ togo 5 n [] (A + 1) ++ rest0 = total) := by
            show _ = _
            have := hEq.out
            rw [togo_end [A] (by omega), List.append_nil, ← HX1.out] at this
            rw [← this]; simp only [List.append_assoc]
          clear hEq eB
          go_wp2
          go_roundw
          case rel => exact ⟨A + 1, done, by go_num, ⟨by omega, by omega⟩, hSt.out, ⟨_, rfl⟩, ⟨_, _, _, rfl⟩, HEN.out⟩
          case measure => simp [intOf]; omega
    · obtain rfl : A = n := by omega
      have hlt' : ¬ (A : Int) < (A : Int) := by omega
      obtain ⟨ad', m', cc', e5, e6, hR6, hb⟩ := hSt.out
      simp only [Value.int.injEq, true_and] at e5
      simp only [Value.slice.injEq] at e6
      obtain ⟨rfl, rfl, rfl⟩ := e6
      have hdone : done = total := by
        have := hEq.out
        rw [togo_end [] (Nat.le_refl _), List.append_nil, ← HX0.out, List.append_nil] at this
        exact this
      subst hdone
      have HE5 := hide e5
      have HB := hide hb.out
      have HR6 := hide hR6.out
      clear e5 hb hR6 hSt hEq
      go_wp2
      go_ret2
      exact ⟨_, _, _, by rw [← HE5.out]; rfl, HR6.out, HB.out⟩

end Go.Proofs.Ytdhacmcdbpojlaa
