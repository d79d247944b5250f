/-
  All pieces that one comes to from an end, laid down by a function that calls itself. No conditions beyond those that each theorem bears.
-/
import Derived.Test.YtjcglpnpdalcjaaRec
namespace Go.Proofs.Ytjcglpnpdalcjaa
open Go.RowKit
attribute [local go_sem] build35 run_eq35 guard35

/-- One after the other the ends below j: the pieces laid down, and those that are left. -/
def hzL (rec : List Pc → Nat → List Pc × List Pc) (v : Nat) : Nat → List Pc → List Pc × List Pc
  | 0, m => ([], m)
  | j + 1, m => if pr v j ∈ (hzL rec v j m).2 then ((hzL rec v j m).1 ++ (rec ((hzL rec v j m).2.erase (pr v j)) j).1 ++ [((v : Int), (j : Int))], (rec ((hzL rec v j m).2.erase (pr v j)) j).2) else hzL rec v j m

def hz : Nat → List Pc → Nat → List Pc × List Pc
  | 0, m, _ => ([], m)
  | k + 1, m, v => hzL (hz k) v 10 m

theorem hzL_len (rec : List Pc → Nat → List Pc × List Pc) (hr : ∀ m v, (rec m v).1.length + (rec m v).2.length = m.length) (v : Nat) : ∀ j m, (hzL rec v j m).1.length + (hzL rec v j m).2.length = m.length
  | 0, m => by simp [hzL]
  | j + 1, m => by
    have ih := hzL_len rec hr v j m
    rw [hzL]
    split
    · rename_i h
      have h1 := hr ((hzL rec v j m).2.erase (pr v j)) j
      have h2 := List.length_erase_of_mem h
      have h3 := List.length_pos_of_mem h
      simp only [List.length_append, List.length_cons, List.length_nil]
      omega
    · exact ih

theorem hz_len : ∀ k m v, (hz k m v).1.length + (hz k m v).2.length = m.length
  | 0, m, v => by simp [hz]
  | k + 1, m, v => by rw [hz]; exact hzL_len (hz k) (hz_len k) v 10 m

theorem hzL_zero (rec : List Pc → Nat → List Pc × List Pc) (v : Nat) (m : List Pc) : hzL rec v 0 m = ([], m) := rfl
theorem hzL_yes (rec : List Pc → Nat → List Pc × List Pc) (v j : Nat) (m : List Pc) (h : pr v j ∈ (hzL rec v j m).2) : hzL rec v (j + 1) m = ((hzL rec v j m).1 ++ (rec ((hzL rec v j m).2.erase (pr v j)) j).1 ++ [((v : Int), (j : Int))], (rec ((hzL rec v j m).2.erase (pr v j)) j).2) := by rw [hzL, if_pos h]
theorem hzL_no (rec : List Pc → Nat → List Pc × List Pc) (v j : Nat) (m : List Pc) (h : ¬ pr v j ∈ (hzL rec v j m).2) : hzL rec v (j + 1) m = hzL rec v j m := by rw [hzL, if_neg h]
theorem hz_succ (k : Nat) (m : List Pc) (v : Nat) : hz (k + 1) m v = hzL (hz k) v 10 m := rfl

/-- A block of one cell. -/
def Cell1 (w : World) (b t : Nat) (v : Value) : Prop := w.heap[b]? = some (.cells #[v] t (0, 0))
theorem Cell1.cell {w : World} {b t : Nat} {v : Value} (h : Cell1 w b t v) : w.cell? ⟨b, 0, none⟩ = some v := by
  have h' : w.heap[b]? = _ := h
  simp [World.cell?, h']
theorem Cell1.frozen {w : World} {b t : Nat} {v : Value} (h : Cell1 w b t v) : w.frozen? ⟨b, 0, none⟩ = false := by
  have h' : w.heap[b]? = _ := h
  simp [World.frozen?, h']
theorem Cell1.set {w : World} {b t : Nat} {v : Value} (h : Cell1 w b t v) (x : Value) : Cell1 (w.setCell ⟨b, 0, none⟩ x) b t x := by
  have h' : w.heap[b]? = _ := h
  simp [Cell1, World.setCell, Array.getElem?_modify, h']
theorem setCell_other (w : World) (b i : Nat) (x : Value) (k : Nat) (h : k ≠ b) : (w.setCell ⟨b, i, none⟩ x).heap[k]? = w.heap[k]? := by
  simp only [World.setCell, Array.getElem?_modify]
  split
  · rename_i e; exact absurd e.symm h
  · rfl

theorem own_of {w w' : World} {base e s n : Nat} {v : Value} {xs : List Value} (h : w.ownsRow base e s v n xs) (hb : ∀ g, v.ownBlock = some g → base ≤ g → g < w.heap.size → w'.heap[g]? = w.heap[g]?) : w'.ownsRow base e s v n xs := by
  refine ⟨h.1, ?_⟩
  rcases h.2 with hn | ⟨g, cap, cur, hv, hbg, hg, r⟩
  · exact .inl hn
  · exact .inr ⟨g, cap, cur, hv, hbg, (hb g (by rw [hv]; rfl) hbg (Array.getElem?_eq_some_iff.1 hg).1).trans hg, r⟩

/-- Where things lie. -/
structure Lie where
  (lb gb rb mb B0 Bq : Nat)
  l0 : B0 ≤ lb
  g0 : B0 ≤ gb
  r0 : B0 ≤ rb
  m0 : B0 ≤ mb
  l1 : lb < Bq
  g1 : gb < Bq
  r1 : rb < Bq
  m1 : mb < Bq
  lr : lb ≠ rb
  gr : gb ≠ rb
  mr : mb ≠ rb

/-- The map of what is left, and the row so far. -/
structure EnvR (L : Lie) (w : World) (m R : List Pc) : Prop where
  map : Mp w L.mb (cntF m)
  left : w.cell? ⟨L.lb, 0, none⟩ = some (.map (some L.mb))
  goOn : w.cell? ⟨L.gb, 0, none⟩ = some (.func (.func 36) #[] #[.pointer (some ⟨L.lb, 0, none⟩), .pointer (some ⟨L.gb, 0, none⟩), .pointer (some ⟨L.rb, 0, none⟩)])
  size : L.Bq ≤ w.heap.size
  row : ∃ a c, Cell1 w L.rb 22 (.slice a R.length c) ∧ w.ownsRow L.Bq 35 2 (.slice a R.length c) R.length (flat R)

theorem EnvR.keep {L : Lie} {w w' : World} {m m' R : List Pc} (h : EnvR L w m R) (hs : w.heap.size ≤ w'.heap.size) (hb : ∀ k, k < w.heap.size → k ≠ L.mb → w'.heap[k]? = w.heap[k]?) (hM : Mp w' L.mb (cntF m')) : EnvR L w' m' R := by
  obtain ⟨a, c, hc, ho⟩ := h.row
  have hsz := h.size
  have l1 := L.l1
  have g1 := L.g1
  have r1 := L.r1
  have m1 := L.m1
  have mr := L.mr
  have e1 : some L.lb ≠ some L.mb := map_ne h.map h.left
  have e2 : some L.gb ≠ some L.mb := map_ne h.map h.goOn
  exact ⟨hM, (World.cell?_of_block (hb L.lb (by omega) (fun e => e1 (by rw [e])))).trans h.left, (World.cell?_of_block (hb L.gb (by omega) (fun e => e2 (by rw [e])))).trans h.goOn, Nat.le_trans hsz hs,
    a, c, (hb L.rb (by omega) (fun e => mr e.symm)).trans hc, own_of ho (fun g _ hg hlt => hb g hlt (by omega))⟩

theorem EnvR.below {L : Lie} {w w' : World} {m R : List Pc} (h : EnvR L w m R) (hB : Below w.heap.size w w') : EnvR L w' m R :=
  h.keep hB.size (fun k hk _ => hB.block k hk) (h.map.below hB)

theorem EnvR.grown {L : Lie} {w w' : World} {m m' R : List Pc} (h : EnvR L w m R) (hG : w.grownBy w' (some L.mb)) (hM : Mp w' L.mb (cntF m')) : EnvR L w' m' R :=
  h.keep hG.size (fun k hk hne => hG.block k hk (fun e => hne (by simpa using e))) hM

/-- The row grows by a piece. -/
theorem EnvR.push {L : Lie} {w w1 : World} {m R R' : List Pc} {a : Option Addr} {c : Nat} {v : Value} (h : EnvR L w m R) (hc : Cell1 w L.rb 22 (.slice a R.length c)) (ho : w.ownsRow L.Bq 35 2 (.slice a R.length c) R.length (flat R))
    (hG : w.grownBy w1 (Value.slice a R.length c).ownBlock) (hO : w1.ownsRow L.Bq 35 2 v R'.length (flat R')) : EnvR L (w1.setCell ⟨L.rb, 0, none⟩ v) m R' ∧ Below L.B0 w (w1.setCell ⟨L.rb, 0, none⟩ v) := by
  have hsz := h.size
  have l1 := L.l1
  have g1 := L.g1
  have r1 := L.r1
  have m1 := L.m1
  have lr := L.lr
  have gr := L.gr
  have mr := L.mr
  have r0 := L.r0
  have hlow : ∀ k, k < L.Bq → k < w.heap.size → w1.heap[k]? = w.heap[k]? := fun k hk hlt => hG.block k hlt (fun e => by
    have := (ho.lt k e.symm).1
    omega)
  have hsc : ∀ k, k < L.Bq → k ≠ L.rb → (w1.setCell ⟨L.rb, 0, none⟩ v).heap[k]? = w.heap[k]? := fun k hk hne => (setCell_other _ _ _ _ _ hne).trans (hlow k hk (by omega))
  have hss : (w1.setCell ⟨L.rb, 0, none⟩ v).heap.size = w1.heap.size := by simp [World.setCell]
  obtain ⟨a', c', rfl⟩ := own_slice hO
  refine ⟨⟨h.map.of_block (hsc _ m1 mr), (World.cell?_of_block (hsc _ l1 lr)).trans h.left, (World.cell?_of_block (hsc _ g1 gr)).trans h.goOn, by rw [hss]; exact Nat.le_trans hsz hG.size, a', c', ?_, own_of hO (fun g _ hg _ => setCell_other _ _ _ _ _ (by omega))⟩, ?_⟩
  · exact Cell1.set (t := 22) (v := .slice a R.length c) ((hlow _ r1 (by omega)).trans hc) _
  · have hB : Below L.B0 w w1 := (Below.refl _ _).grown hG (by have := L.l0; omega) (fun k hk => by have := (ho.lt k hk).1; have := L.l0; omega)
    exact hB.setCell r0 _

attribute [local irreducible] hz hzL

set_option maxRecDepth 100000 in
set_option maxHeartbeats 16000000 in
theorem hz_any (L : Lie) : ∀ (k : Nat) (m : List Pc) (v : Nat), v < 10 → m.length ≤ k → ∀ (w : World) (R : List Pc), EnvR L w m R → R.length + m.length ≤ 999 →
    Calls Try.prog 36 #[.int .i64 v, .pointer (some ⟨L.lb, 0, none⟩), .pointer (some ⟨L.gb, 0, none⟩), .pointer (some ⟨L.rb, 0, none⟩)] w fun e w' => e = .returned (.tuple #[]) ∧ EnvR L w' (hz (k + 1) m v).2 (R ++ (hz (k + 1) m v).1) ∧ Below L.B0 w w' := by
  intro k
  induction k with
  | zero => 
    intro m v hv hmk w R hE hRm
    obtain ⟨k, hkk⟩ : ∃ k, k = 0 := ⟨_, rfl⟩
    have HKK := hide hkk
    have HHZ : Hid (hz (0 + 1) m v = hzL (hz k) v 10 m) := hide (by rw [hkk]; exact hz_succ _ _ _)
    rw [HHZ.out]
    have HE := hide hE
    obtain ⟨lb, hlb⟩ : ∃ x, x = L.lb := ⟨_, rfl⟩
    obtain ⟨gb, hgb⟩ : ∃ x, x = L.gb := ⟨_, rfl⟩
    obtain ⟨rb, hrb⟩ : ∃ x, x = L.rb := ⟨_, rfl⟩
    obtain ⟨mb, hmb⟩ : ∃ x, x = L.mb := ⟨_, rfl⟩
    rw [← hlb, ← hgb, ← hrb]
    have HLB := hide hlb
    have HGB := hide hgb
    have HRB := hide hrb
    have HMB := hide hmb
    have HMK : Hid (m.length ≤ k) := hide (by omega)
    have HRM := hide hRm
    
    clear hE hkk hmk hRm hlb hgb hrb hmb 
    go_enter Try.func36, Try.ntmps36
    go_wp2_with fail
    go_loopw [7] (fun u wr => ∃ i : Nat, i ≤ 10 ∧ u = .int .i64 i ∧ Hid (EnvR L wr (hzL (hz k) v i m).2 (R ++ (hzL (hz k) v i m).1)) ∧ Hid (Below L.B0 w wr)) (fun u _ => 10 - (intOf u).toNat)
    case atStart => exact ⟨0, by omega, rfl, hide (by rw [hzL_zero]; simpa using HE.out), hide (Below.refl _ _)⟩
    case round =>
      obtain ⟨i, hi, rfl, HEr, HBr⟩ := hrel
      by_cases hi10 : i < 10
      · have hi' : (i : Int) < 10 := by omega
        have hLen := hzL_len (hz k) (hz_len k) v i m
        obtain ⟨m1, hm1⟩ : ∃ m1, m1 = (hzL (hz k) v i m).2 := ⟨_, rfl⟩
        obtain ⟨R1, hR1⟩ : ∃ R1, R1 = R ++ (hzL (hz k) v i m).1 := ⟨_, rfl⟩
        have HM1E := hide hm1
        have HR1E := hide hR1
        rw [← hm1, ← hR1] at HEr
        have HRL : Hid (R1.length + m1.length ≤ 999) := hide (by have := HRM.out; rw [hR1, hm1, List.length_append]; omega)
        have HM1 : Hid (m1.length ≤ k) := hide (by have := HMK.out; rw [hm1]; omega)
        clear hm1 hR1 hLen
        have hEr := HEr.out
        clear hEr
        go_wp2_with fail
        refine (lesserFirst_any ((v : Int), (i : Int)) _).mono ?_
        rintro e w3 ⟨rfl, hB3⟩
        obtain ⟨P1, P2, hP⟩ : ∃ P1 P2, lf ((v : Int), (i : Int)) = (P1, P2) := ⟨_, _, rfl⟩
        rw [hP]
        have HPR : Hid (pr v i = (P1, P2)) := hide hP
        have HE3 := hide (HEr.out.below hB3)
        have HB3 := hide (HBr.out.trans (hB3.mono (by have := HEr.out.size; have := L.m1; have := L.m0; omega)))
        clear hB3 HBr HEr hP
        rw [show pv (P1, P2) = Value.agg #[.int .i64 P1, .int .i64 P2] from rfl]
        have B4 : Below w3.heap.size w3 (w3.alloc (.cells #[.int .i64 P1, .int .i64 P2] 35)) := (Below.refl _ _).alloc (Nat.le_refl _) _
        have HE4 := hide (HE3.out.below B4)
        have M3' : Mp (w3.alloc (.cells #[.int .i64 P1, .int .i64 P2] 35)) mb (cntF m1) := by rw [HMB.out]; exact HE4.out.map
        have l4 : (w3.alloc (.cells #[.int .i64 P1, .int .i64 P2] 35)).cell? ⟨lb, 0, none⟩ = some (.map (some mb)) := by rw [HMB.out, HLB.out]; exact HE4.out.left
        have HB4 := hide (HB3.out.trans (B4.mono (by have := HE3.out.size; have := L.m1; have := L.m0; omega)))
        have q0 : (w3.alloc (.cells #[.int .i64 P1, .int .i64 P2] 35)).cell? ⟨w3.heap.size, 0, none⟩ = some (.int .i64 P1) := by go_simp
        have q1 : (w3.alloc (.cells #[.int .i64 P1, .int .i64 P2] 35)).cell? ⟨w3.heap.size, 1, none⟩ = some (.int .i64 P2) := by go_simp
        have hL4 := M3'.look (P1, P2)
        rw [show pv (P1, P2) = Value.agg #[.int .i64 P1, .int .i64 P2] from rfl] at hL4
        clear B4 HE3 HB3
        generalize hwp : w3.heap.size = wp at *
        generalize hw4 : w3.alloc (.cells #[.int .i64 P1, .int .i64 P2] 35) = w4 at *
        by_cases hin : (P1, P2) ∈ m1
        · exact absurd (List.length_pos_of_mem hin) (by have := HM1.out; have := HKK.out; omega)
        · have hz0 : ((cntF m1 (P1, P2) : Nat) : Int) = 0 := by
            have : ¬ 0 < cntF m1 (P1, P2) := fun h => hin ((cntF_pos m1 (P1, P2)).1 h)
            omega
          rw [hz0] at hL4
          have HSTEP : Hid (hzL (hz k) v (i + 1) m = hzL (hz k) v i m) := hide (by
            exact hzL_no (hz k) v i m (by rw [HPR.out, ← HM1E.out]; exact hin))
          clear hin hz0
          go_wp2_with fail
          clear hL4
          go_roundw
          case rel => exact ⟨i + 1, by omega, by go_num, hide (by rw [HSTEP.out, ← HM1E.out, ← HR1E.out]; exact HE4.out), HB4⟩
          case measure => simp [intOf]; omega
      · obtain rfl : i = 10 := by omega
        go_wp2_with fail
        go_end0
        exact ⟨rfl, HEr.out, HBr.out⟩

  | succ k' ih => 
    intro m v hv hmk w R hE hRm
    obtain ⟨k, hkk⟩ : ∃ k, k = (k' + 1) := ⟨_, rfl⟩
    have HKK := hide hkk
    have HHZ : Hid (hz ((k' + 1) + 1) m v = hzL (hz k) v 10 m) := hide (by rw [hkk]; exact hz_succ _ _ _)
    rw [HHZ.out]
    have HE := hide hE
    obtain ⟨lb, hlb⟩ : ∃ x, x = L.lb := ⟨_, rfl⟩
    obtain ⟨gb, hgb⟩ : ∃ x, x = L.gb := ⟨_, rfl⟩
    obtain ⟨rb, hrb⟩ : ∃ x, x = L.rb := ⟨_, rfl⟩
    obtain ⟨mb, hmb⟩ : ∃ x, x = L.mb := ⟨_, rfl⟩
    rw [← hlb, ← hgb, ← hrb]
    have HLB := hide hlb
    have HGB := hide hgb
    have HRB := hide hrb
    have HMB := hide hmb
    have HMK : Hid (m.length ≤ k) := hide (by omega)
    have HRM := hide hRm
    have IH : Hid (∀ (m : List Pc) (v : Nat), v < 10 → m.length ≤ k' → ∀ (w : World) (R : List Pc), EnvR L w m R → R.length + m.length ≤ 999 → Calls Try.prog 36 #[.int .i64 v, .pointer (some ⟨lb, 0, none⟩), .pointer (some ⟨gb, 0, none⟩), .pointer (some ⟨rb, 0, none⟩)] w fun e w' => e = .returned (.tuple #[]) ∧ EnvR L w' (hz (k' + 1) m v).2 (R ++ (hz (k' + 1) m v).1) ∧ Below L.B0 w w') := hide (by rw [hlb, hgb, hrb]; exact ih)
    clear hE hkk hmk hRm hlb hgb hrb hmb ih
    go_enter Try.func36, Try.ntmps36
    go_wp2_with fail
    go_loopw [7] (fun u wr => ∃ i : Nat, i ≤ 10 ∧ u = .int .i64 i ∧ Hid (EnvR L wr (hzL (hz k) v i m).2 (R ++ (hzL (hz k) v i m).1)) ∧ Hid (Below L.B0 w wr)) (fun u _ => 10 - (intOf u).toNat)
    case atStart => exact ⟨0, by omega, rfl, hide (by rw [hzL_zero]; simpa using HE.out), hide (Below.refl _ _)⟩
    case round =>
      obtain ⟨i, hi, rfl, HEr, HBr⟩ := hrel
      by_cases hi10 : i < 10
      · have hi' : (i : Int) < 10 := by omega
        have hLen := hzL_len (hz k) (hz_len k) v i m
        obtain ⟨m1, hm1⟩ : ∃ m1, m1 = (hzL (hz k) v i m).2 := ⟨_, rfl⟩
        obtain ⟨R1, hR1⟩ : ∃ R1, R1 = R ++ (hzL (hz k) v i m).1 := ⟨_, rfl⟩
        have HM1E := hide hm1
        have HR1E := hide hR1
        rw [← hm1, ← hR1] at HEr
        have HRL : Hid (R1.length + m1.length ≤ 999) := hide (by have := HRM.out; rw [hR1, hm1, List.length_append]; omega)
        have HM1 : Hid (m1.length ≤ k) := hide (by have := HMK.out; rw [hm1]; omega)
        clear hm1 hR1 hLen
        have hEr := HEr.out
        clear hEr
        go_wp2_with fail
        refine (lesserFirst_any ((v : Int), (i : Int)) _).mono ?_
        rintro e w3 ⟨rfl, hB3⟩
        obtain ⟨P1, P2, hP⟩ : ∃ P1 P2, lf ((v : Int), (i : Int)) = (P1, P2) := ⟨_, _, rfl⟩
        rw [hP]
        have HPR : Hid (pr v i = (P1, P2)) := hide hP
        have HE3 := hide (HEr.out.below hB3)
        have HB3 := hide (HBr.out.trans (hB3.mono (by have := HEr.out.size; have := L.m1; have := L.m0; omega)))
        clear hB3 HBr HEr hP
        rw [show pv (P1, P2) = Value.agg #[.int .i64 P1, .int .i64 P2] from rfl]
        have B4 : Below w3.heap.size w3 (w3.alloc (.cells #[.int .i64 P1, .int .i64 P2] 35)) := (Below.refl _ _).alloc (Nat.le_refl _) _
        have HE4 := hide (HE3.out.below B4)
        have M3' : Mp (w3.alloc (.cells #[.int .i64 P1, .int .i64 P2] 35)) mb (cntF m1) := by rw [HMB.out]; exact HE4.out.map
        have l4 : (w3.alloc (.cells #[.int .i64 P1, .int .i64 P2] 35)).cell? ⟨lb, 0, none⟩ = some (.map (some mb)) := by rw [HMB.out, HLB.out]; exact HE4.out.left
        have HB4 := hide (HB3.out.trans (B4.mono (by have := HE3.out.size; have := L.m1; have := L.m0; omega)))
        have q0 : (w3.alloc (.cells #[.int .i64 P1, .int .i64 P2] 35)).cell? ⟨w3.heap.size, 0, none⟩ = some (.int .i64 P1) := by go_simp
        have q1 : (w3.alloc (.cells #[.int .i64 P1, .int .i64 P2] 35)).cell? ⟨w3.heap.size, 1, none⟩ = some (.int .i64 P2) := by go_simp
        have hL4 := M3'.look (P1, P2)
        rw [show pv (P1, P2) = Value.agg #[.int .i64 P1, .int .i64 P2] from rfl] at hL4
        clear B4 HE3 HB3
        generalize hwp : w3.heap.size = wp at *
        generalize hw4 : w3.alloc (.cells #[.int .i64 P1, .int .i64 P2] 35) = w4 at *
        by_cases hin : (P1, P2) ∈ m1
        · have HIN := hide hin
          have hpos : (0 : Int) < ((cntF m1 (P1, P2) : Nat) : Int) := by have := (cntF_pos m1 (P1, P2)).2 hin; omega
          have HLE := hide (Nat.le_trans (cntF_le m1 (P1, P2)) (show m1.length ≤ 1000 by have := HRL.out; omega))
          have HCAST : Hid (((cntF m1 (P1, P2) - 1 : Nat) : Int) = ((cntF m1 (P1, P2) : Nat) : Int) - 1) := hide (by omega)
          clear hin
          go_wp2_with fail
          try clear hL4 hpos
          refine wp_region_held (S := fun W => w4.grownBy W (some mb)) (by kernel_rfl) ?_
          change wpAnyH _ _ _ _ _ _ _ _ (World.drew _)
          have SW : w4.grownBy w4.drew (some mb) := grown_drew _ _
          have M1 : Mp w4.drew mb (cntF m1) := M3'.of_block rfl
          have HL0 : Hid (∀ W, w4.grownBy W (some mb) → W.cell? ⟨lb, 0, none⟩ = some (.map (some mb))) := hide (fun W hW => hW.cell l4 (map_ne M3' l4))
          have HE0 : Hid (∀ W, w4.grownBy W (some mb) → W.cell? ⟨wp, 0, none⟩ = some (.int .i64 P1)) := hide (fun W hW => hW.cell q0 (map_ne M3' q0))
          have HE1 : Hid (∀ W, w4.grownBy W (some mb) → W.cell? ⟨wp, 1, none⟩ = some (.int .i64 P2)) := hide (fun W hW => hW.cell q1 (map_ne M3' q1))
          refine wpAnyH_take (i := 0) (v := .map (some mb)) rfl (by kernel_rfl) (by kernel_rfl) (by kernel_rfl) (fun _ _ _ h => h) (Or.inl ⟨by rfl, ?_⟩) SW ?_
          · intro W hW
            have f0 := HL0.out W hW
            go_simp
          go_simp
          refine wpAnyH_take (i := 1) (v := .agg #[.int .i64 P1, .int .i64 P2]) rfl (by kernel_rfl) (by kernel_rfl) (by kernel_rfl) (fun _ _ _ h => h) (Or.inl ⟨by rfl, ?_⟩) SW ?_
          · intro W hW
            have f0 := HE0.out W hW
            have f1 := HE1.out W hW
            go_simp
          go_simp
          clear HL0 HE0 HE1
          refine wpAnyH_ready (rs := [2, 4]) (by kernel_rfl) (by simp) ?_
          refine AllReadyH.cons rfl (fun K1 hK1 => ?_) (AllReadyH.cons rfl (fun K1 hK1 => ?_) AllReadyH.nil)
          · have hL := M1.look (P1, P2)
            rw [show pv (P1, P2) = Value.agg #[.int .i64 P1, .int .i64 P2] from rfl] at hL
            go_simp
            refine hK1.out _ _ SW (fun SW => ?_)
            clear hK1 K1 hL
            refine wpAnyH_take (i := 3) (v := .int .i64 (((cntF m1 (P1, P2) : Nat) : Int) - 1)) rfl (by kernel_rfl) (by kernel_rfl) (by kernel_rfl) (fun _ _ _ h => h) (Or.inl ⟨by rfl, ?_⟩) SW ?_
            · intro W hW
              go_simp
              rw [IntKind.wrap_i64]
              have := HLE.out
              omega
            go_simp
            refine wpAnyH_ready (rs := [4]) (by kernel_rfl) (by simp) ?_
            refine AllReadyH.cons rfl (fun K1 hK1 => ?_) AllReadyH.nil
            obtain ⟨v0, st, w5, hE, M3, hAt, hG5, -⟩ := M1.entry (P1, P2)
            rw [show pv (P1, P2) = Value.agg #[.int .i64 P1, .int .i64 P2] from rfl] at hE
            go_simp
            refine hK1.out _ _ (grown_trans SW hG5) (fun SW => ?_)
            clear hK1 K1 hE
            refine wpAnyH_take (i := 5) (v := .int .i64 ((st : Nat) : Int)) rfl (by kernel_rfl) (by kernel_rfl) (by kernel_rfl) (fun _ _ _ h => h) (Or.inl ⟨by rfl, ?_⟩) SW ?_
            · intro W hW
              go_simp
            go_simp
            refine wpAnyH_ready (rs := [6]) (by kernel_rfl) (by simp) ?_
            refine AllReadyH.cons rfl (fun K1 hK1 => ?_) AllReadyH.nil
            obtain ⟨w6, hS, M4, hG6⟩ := M3.store hAt (cntF m1 (P1, P2) - 1)
            rw [HCAST.out] at hS
            go_simp
            refine hK1.out _ _ (grown_trans SW hG6) (fun SW => ?_)
            clear hK1 K1 hS
            refine wpAnyH_done (by kernel_rfl) ?_ _
            clear M3 hAt hG5 hG6 M1
            have hE6 : EnvR L w6 (m1.erase (P1, P2)) R1 := HE4.out.grown (by rw [← HMB.out]; exact SW) (by rw [cntF_erase, ← HMB.out]; exact M4)
            have HB6 := hide (HB4.out.grown SW (by have := HE4.out.size; have := L.m1; have := L.m0; omega) (fun j hj => by cases hj; rw [HMB.out]; exact L.m0))
            have HE6 := hide hE6
            have g6 : w6.cell? ⟨gb, 0, none⟩ = some (.func (.func 36) #[] #[.pointer (some ⟨lb, 0, none⟩), .pointer (some ⟨gb, 0, none⟩), .pointer (some ⟨rb, 0, none⟩)]) := by rw [HLB.out, HGB.out, HRB.out]; exact hE6.goOn
            clear SW M4 M3' l4 q0 q1 HB4 HE4 HLE HCAST hE6
            go_wp2_with fail
            refine (IH.out (m1.erase (P1, P2)) i hi10 (by have := List.length_erase_of_mem HIN.out; have := List.length_pos_of_mem HIN.out; have := HM1.out; have := HKK.out; omega) w6 R1 HE6.out (by have := List.length_erase_of_mem HIN.out; have := HRL.out; omega)).mono ?_
            rintro e w7 ⟨rfl, hE7, hB7⟩
            obtain ⟨R2, hR2⟩ : ∃ R2, R2 = R1 ++ (hz (k' + 1) (m1.erase (P1, P2)) i).1 := ⟨_, rfl⟩
            obtain ⟨m2, hm2⟩ : ∃ m2, m2 = (hz (k' + 1) (m1.erase (P1, P2)) i).2 := ⟨_, rfl⟩
            rw [← hR2, ← hm2] at hE7
            have hl2 : R2.length ≤ 1000 := by
              have h1 := hz_len (k' + 1) (m1.erase (P1, P2)) i
              have h2 := List.length_erase_of_mem HIN.out
              have h3 := HRL.out
              rw [hR2, List.length_append]; omega
            have HB7 := hide (HB6.out.trans (hB7.mono (Nat.le_refl _)))
            have HSTEP : Hid (hzL (hz k) v (i + 1) m = ((hzL (hz k) v i m).1 ++ (hz (k' + 1) (m1.erase (P1, P2)) i).1 ++ [((v : Int), (i : Int))], m2)) := hide (by
              rw [hzL_yes (hz k) v i m (by rw [HPR.out, ← HM1E.out]; exact HIN.out), HPR.out, ← HM1E.out, HKK.out, hm2])
            have HRR : Hid (R ++ ((hzL (hz k) v i m).1 ++ (hz (k' + 1) (m1.erase (P1, P2)) i).1 ++ [((v : Int), (i : Int))]) = R2 ++ [((v : Int), (i : Int))]) := hide (by
              rw [hR2, HR1E.out]; simp)
            obtain ⟨ra, rc, hC7, hO7⟩ := hE7.row
            have HE7 := hide hE7
            have HC7 := hide hC7
            have HO7 := hide hO7
            have rc7 : w7.cell? ⟨rb, 0, none⟩ = some (.slice ra R2.length rc) := by rw [HRB.out]; exact hC7.cell
            have HSZ := hide hE7.size
            clear hE7 hB7 hC7 hO7 hR2 hm2 HB6 HE6 g6
            go_wp2_with (at_builtin; refine wpList_append_rp _ rfl _ _ rfl L.Bq _ R2.length R2 rfl (HO7.out.alloc _) _ 1 1 [((v : Int), (i : Int))] rfl (Rp.one _ _ _) (by omega) (by have := HSZ.out; simp [World.size_alloc]; omega) ?_)
            intro v9 w9 hO9 hG9
            obtain ⟨a9, c9, hv9⟩ := own_slice hO9
            rw [hv9] at hO9 ⊢
            clear hv9
            have hG9' := grown_trans (World.grownBy_alloc w7 (.cells #[.int .i64 (v : Int), .int .i64 (i : Int)] 35) (Value.slice ra R2.length rc).ownBlock) hG9
            have hlen : R2.length + 1 = (R2 ++ [((v : Int), (i : Int))]).length := by simp
            rw [hlen] at hO9 ⊢
            clear hlen
            obtain ⟨hE10, hB10⟩ := HE7.out.push HC7.out HO7.out hG9' hO9
            have hC9 : Cell1 w9 L.rb 22 (.slice ra R2.length rc) := (hG9'.block L.rb (by have := L.r1; have := HSZ.out; omega) (fun e => by have := (HO7.out.lt L.rb e.symm).1; have := L.r1; omega)).trans HC7.out
            have fz : w9.frozen? ⟨rb, 0, none⟩ = false := by rw [HRB.out]; exact hC9.frozen
            have ce : w9.cell? ⟨rb, 0, none⟩ = some (.slice ra R2.length rc) := by rw [HRB.out]; exact hC9.cell
            have HE10 : Hid (EnvR L (w9.setCell ⟨rb, 0, none⟩ (.slice a9 (R2 ++ [((v : Int), (i : Int))]).length c9)) m2 (R2 ++ [((v : Int), (i : Int))])) := hide (by rw [HRB.out]; exact hE10)
            have HB10 : Hid (Below L.B0 w (w9.setCell ⟨rb, 0, none⟩ (.slice a9 (R2 ++ [((v : Int), (i : Int))]).length c9))) := hide (by rw [HRB.out]; exact HB7.out.trans hB10)
            have hsz9 : True := trivial
            generalize (R2 ++ [((v : Int), (i : Int))]).length = N9 at *
            clear hE10 hB10 hC9 hG9 hG9' hO9 HE7 HC7 HO7 rc7 HB7
            go_wp2_with fail
            go_roundw
            case rel => exact ⟨i + 1, by omega, by go_num, hide (by rw [HSTEP.out]; simp only; rw [HRR.out]; exact HE10.out), HB10⟩
            case measure => simp [intOf]; omega
          · obtain ⟨v0, st, w5, hE, M3, hAt, hG5, -⟩ := M1.entry (P1, P2)
            rw [show pv (P1, P2) = Value.agg #[.int .i64 P1, .int .i64 P2] from rfl] at hE
            go_simp
            refine hK1.out _ _ (grown_trans SW hG5) (fun SW => ?_)
            clear hK1 K1 hE
            refine wpAnyH_take (i := 5) (v := .int .i64 ((st : Nat) : Int)) rfl (by kernel_rfl) (by kernel_rfl) (by kernel_rfl) (fun _ _ _ h => h) (Or.inl ⟨by rfl, ?_⟩) SW ?_
            · intro W hW
              go_simp
            go_simp
            refine wpAnyH_ready (rs := [2]) (by kernel_rfl) (by simp) ?_
            refine AllReadyH.cons rfl (fun K1 hK1 => ?_) AllReadyH.nil
            have hL := M3.look (P1, P2)
            rw [show pv (P1, P2) = Value.agg #[.int .i64 P1, .int .i64 P2] from rfl] at hL
            go_simp
            refine hK1.out _ _ SW (fun SW => ?_)
            clear hK1 K1 hL
            refine wpAnyH_take (i := 3) (v := .int .i64 (((cntF m1 (P1, P2) : Nat) : Int) - 1)) rfl (by kernel_rfl) (by kernel_rfl) (by kernel_rfl) (fun _ _ _ h => h) (Or.inl ⟨by rfl, ?_⟩) SW ?_
            · intro W hW
              go_simp
              rw [IntKind.wrap_i64]
              have := HLE.out
              omega
            go_simp
            refine wpAnyH_ready (rs := [6]) (by kernel_rfl) (by simp) ?_
            refine AllReadyH.cons rfl (fun K1 hK1 => ?_) AllReadyH.nil
            obtain ⟨w6, hS, M4, hG6⟩ := M3.store hAt (cntF m1 (P1, P2) - 1)
            rw [HCAST.out] at hS
            go_simp
            refine hK1.out _ _ (grown_trans SW hG6) (fun SW => ?_)
            clear hK1 K1 hS
            refine wpAnyH_done (by kernel_rfl) ?_ _
            clear M3 hAt hG5 hG6 M1
            have hE6 : EnvR L w6 (m1.erase (P1, P2)) R1 := HE4.out.grown (by rw [← HMB.out]; exact SW) (by rw [cntF_erase, ← HMB.out]; exact M4)
            have HB6 := hide (HB4.out.grown SW (by have := HE4.out.size; have := L.m1; have := L.m0; omega) (fun j hj => by cases hj; rw [HMB.out]; exact L.m0))
            have HE6 := hide hE6
            have g6 : w6.cell? ⟨gb, 0, none⟩ = some (.func (.func 36) #[] #[.pointer (some ⟨lb, 0, none⟩), .pointer (some ⟨gb, 0, none⟩), .pointer (some ⟨rb, 0, none⟩)]) := by rw [HLB.out, HGB.out, HRB.out]; exact hE6.goOn
            clear SW M4 M3' l4 q0 q1 HB4 HE4 HLE HCAST hE6
            go_wp2_with fail
            refine (IH.out (m1.erase (P1, P2)) i hi10 (by have := List.length_erase_of_mem HIN.out; have := List.length_pos_of_mem HIN.out; have := HM1.out; have := HKK.out; omega) w6 R1 HE6.out (by have := List.length_erase_of_mem HIN.out; have := HRL.out; omega)).mono ?_
            rintro e w7 ⟨rfl, hE7, hB7⟩
            obtain ⟨R2, hR2⟩ : ∃ R2, R2 = R1 ++ (hz (k' + 1) (m1.erase (P1, P2)) i).1 := ⟨_, rfl⟩
            obtain ⟨m2, hm2⟩ : ∃ m2, m2 = (hz (k' + 1) (m1.erase (P1, P2)) i).2 := ⟨_, rfl⟩
            rw [← hR2, ← hm2] at hE7
            have hl2 : R2.length ≤ 1000 := by
              have h1 := hz_len (k' + 1) (m1.erase (P1, P2)) i
              have h2 := List.length_erase_of_mem HIN.out
              have h3 := HRL.out
              rw [hR2, List.length_append]; omega
            have HB7 := hide (HB6.out.trans (hB7.mono (Nat.le_refl _)))
            have HSTEP : Hid (hzL (hz k) v (i + 1) m = ((hzL (hz k) v i m).1 ++ (hz (k' + 1) (m1.erase (P1, P2)) i).1 ++ [((v : Int), (i : Int))], m2)) := hide (by
              rw [hzL_yes (hz k) v i m (by rw [HPR.out, ← HM1E.out]; exact HIN.out), HPR.out, ← HM1E.out, HKK.out, hm2])
            have HRR : Hid (R ++ ((hzL (hz k) v i m).1 ++ (hz (k' + 1) (m1.erase (P1, P2)) i).1 ++ [((v : Int), (i : Int))]) = R2 ++ [((v : Int), (i : Int))]) := hide (by
              rw [hR2, HR1E.out]; simp)
            obtain ⟨ra, rc, hC7, hO7⟩ := hE7.row
            have HE7 := hide hE7
            have HC7 := hide hC7
            have HO7 := hide hO7
            have rc7 : w7.cell? ⟨rb, 0, none⟩ = some (.slice ra R2.length rc) := by rw [HRB.out]; exact hC7.cell
            have HSZ := hide hE7.size
            clear hE7 hB7 hC7 hO7 hR2 hm2 HB6 HE6 g6
            go_wp2_with (at_builtin; refine wpList_append_rp _ rfl _ _ rfl L.Bq _ R2.length R2 rfl (HO7.out.alloc _) _ 1 1 [((v : Int), (i : Int))] rfl (Rp.one _ _ _) (by omega) (by have := HSZ.out; simp [World.size_alloc]; omega) ?_)
            intro v9 w9 hO9 hG9
            obtain ⟨a9, c9, hv9⟩ := own_slice hO9
            rw [hv9] at hO9 ⊢
            clear hv9
            have hG9' := grown_trans (World.grownBy_alloc w7 (.cells #[.int .i64 (v : Int), .int .i64 (i : Int)] 35) (Value.slice ra R2.length rc).ownBlock) hG9
            have hlen : R2.length + 1 = (R2 ++ [((v : Int), (i : Int))]).length := by simp
            rw [hlen] at hO9 ⊢
            clear hlen
            obtain ⟨hE10, hB10⟩ := HE7.out.push HC7.out HO7.out hG9' hO9
            have hC9 : Cell1 w9 L.rb 22 (.slice ra R2.length rc) := (hG9'.block L.rb (by have := L.r1; have := HSZ.out; omega) (fun e => by have := (HO7.out.lt L.rb e.symm).1; have := L.r1; omega)).trans HC7.out
            have fz : w9.frozen? ⟨rb, 0, none⟩ = false := by rw [HRB.out]; exact hC9.frozen
            have ce : w9.cell? ⟨rb, 0, none⟩ = some (.slice ra R2.length rc) := by rw [HRB.out]; exact hC9.cell
            have HE10 : Hid (EnvR L (w9.setCell ⟨rb, 0, none⟩ (.slice a9 (R2 ++ [((v : Int), (i : Int))]).length c9)) m2 (R2 ++ [((v : Int), (i : Int))])) := hide (by rw [HRB.out]; exact hE10)
            have HB10 : Hid (Below L.B0 w (w9.setCell ⟨rb, 0, none⟩ (.slice a9 (R2 ++ [((v : Int), (i : Int))]).length c9))) := hide (by rw [HRB.out]; exact HB7.out.trans hB10)
            have hsz9 : True := trivial
            generalize (R2 ++ [((v : Int), (i : Int))]).length = N9 at *
            clear hE10 hB10 hC9 hG9 hG9' hO9 HE7 HC7 HO7 rc7 HB7
            go_wp2_with fail
            go_roundw
            case rel => exact ⟨i + 1, by omega, by go_num, hide (by rw [HSTEP.out]; simp only; rw [HRR.out]; exact HE10.out), HB10⟩
            case measure => simp [intOf]; omega
        · have hz0 : ((cntF m1 (P1, P2) : Nat) : Int) = 0 := by
            have : ¬ 0 < cntF m1 (P1, P2) := fun h => hin ((cntF_pos m1 (P1, P2)).1 h)
            omega
          rw [hz0] at hL4
          have HSTEP : Hid (hzL (hz k) v (i + 1) m = hzL (hz k) v i m) := hide (by
            exact hzL_no (hz k) v i m (by rw [HPR.out, ← HM1E.out]; exact hin))
          clear hin hz0
          go_wp2_with fail
          clear hL4
          go_roundw
          case rel => exact ⟨i + 1, by omega, by go_num, hide (by rw [HSTEP.out, ← HM1E.out, ← HR1E.out]; exact HE4.out), HB4⟩
          case measure => simp [intOf]; omega
      · obtain rfl : i = 10 := by omega
        go_wp2_with fail
        go_end0
        exact ⟨rfl, HEr.out, HBr.out⟩


end Go.Proofs.Ytjcglpnpdalcjaa
