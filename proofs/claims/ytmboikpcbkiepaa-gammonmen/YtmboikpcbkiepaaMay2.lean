/-
  Which boards may be: gammon.May, over the whole. No conditions beyond those that each theorem bears.
-/
import Derived.Test.YtmboikpcbkiepaaNew
namespace Go.Proofs.Ytmboikpcbkiepaa
open Go.RowKit

def up (z : Int) : Int := if 0 ≤ z then z else 0

theorem up_max (z : Int) : max z 0 = up z := by unfold up; split <;> omega
theorem up_pos (z : Int) : 0 ≤ up z := by unfold up; split <;> omega
theorem up_le (z : Int) : z ≤ up z := by unfold up; split <;> omega

def ws (W : Int) (P : List Int) : List Int := W :: P.map up
def bs (B : Int) (P : List Int) : List Int := B :: P.map (fun z => up (-z))

/-- A board that may be. -/
def mayP (P : List Int) (W B T : Int) : Prop :=
  P.length = 26 ∧ P.getD 0 0 = 0 ∧ P.getD 25 0 = 0 ∧ 0 ≤ W ∧ 0 ≤ B ∧ (T = 0 ∨ T = 1) ∧ (ws W P).sum ≤ 15 ∧ (bs B P).sum ≤ 15

instance (P : List Int) (W B T : Int) : Decidable (mayP P W B T) := by unfold mayP; infer_instance

def mayG (P : List Int) (W B T : Int) : Bool := decide (mayP P W B T)

theorem mem_le_sum (zs : List Int) (h : ∀ z ∈ zs, 0 ≤ z) : ∀ z ∈ zs, z ≤ zs.sum := by
  induction zs with
  | nil => intro z hz; simp at hz
  | cons y ys ih =>
    intro z hz
    have hy := h y (by simp)
    have hs := sum_pos ys (fun x hx => h x (by simp [hx]))
    rw [List.sum_cons]
    rcases List.mem_cons.1 hz with rfl | hz
    · omega
    · have := ih (fun x hx => h x (by simp [hx])) z hz
      omega

theorem ws_pos {W : Int} (hW : 0 ≤ W) (P : List Int) : ∀ z ∈ ws W P, 0 ≤ z := by
  intro z hz
  simp only [ws, List.mem_cons, List.mem_map] at hz
  rcases hz with rfl | ⟨x, -, rfl⟩
  · exact hW
  · exact up_pos _

theorem bs_pos {B : Int} (hB : 0 ≤ B) (P : List Int) : ∀ z ∈ bs B P, 0 ≤ z := by
  intro z hz
  simp only [bs, List.mem_cons, List.mem_map] at hz
  rcases hz with rfl | ⟨x, -, rfl⟩
  · exact hB
  · exact up_pos _

theorem mayP.low {P : List Int} {W B T : Int} (h : mayP P W B T) : ∀ z ∈ P, -15 ≤ z := by
  obtain ⟨-, -, -, hW, hB, -, -, h2⟩ := h
  intro z hz
  have := mem_le_sum _ (bs_pos hB P) (up (-z)) (by simp only [bs, List.mem_cons, List.mem_map]; exact Or.inr ⟨z, hz, rfl⟩)
  have := up_le (-z)
  omega

theorem mayP.high {P : List Int} {W B T : Int} (h : mayP P W B T) : ∀ z ∈ P, z ≤ 15 := by
  obtain ⟨-, -, -, hW, hB, -, h1, -⟩ := h
  intro z hz
  have := mem_le_sum _ (ws_pos hW P) (up z) (by simp only [ws, List.mem_cons, List.mem_map]; exact Or.inr ⟨z, hz, rfl⟩)
  have := up_le z
  omega

theorem take_snoc (P : List Int) (k : Nat) (hk : k < P.length) : P.take (k + 1) = P.take k ++ [P.getD k 0] := by
  rw [List.take_succ_eq_append_getElem hk]
  simp [List.getD, hk]

theorem ws_snoc (W : Int) (P : List Int) (k : Nat) (hk : k < P.length) : ws W (P.take (k + 1)) = ws W (P.take k) ++ [up (P.getD k 0)] := by
  rw [take_snoc P k hk]; simp [ws]
theorem bs_snoc (B : Int) (P : List Int) (k : Nat) (hk : k < P.length) : bs B (P.take (k + 1)) = bs B (P.take k) ++ [up (-P.getD k 0)] := by
  rw [take_snoc P k hk]; simp [bs]

theorem Rd_one (w : World) (x : Int) : Rd (w.alloc (.cells #[.int .i64 x] 3)) (some ⟨w.heap.size, 0, none⟩) 1 1 [x] := by
  refine ⟨rfl, Nat.le_refl _, by unfold maxLen; omega, (fun h => by simp at h), fun _ => ⟨w.heap.size, 0, rfl, fun i hi => ?_⟩⟩
  obtain rfl : i = 0 := by omega
  simp

theorem slice_form {w : World} {base : Nat} {v : Value} {n : Nat} {xs : List Value} (h : w.ownsRow base 3 1 v n xs) : ∃ a c, v = .slice a n c := by
  rcases h.2 with ⟨hv, h0⟩ | ⟨g, cap, cur, hv, _⟩
  · exact ⟨none, 0, by rw [hv, h0]⟩
  · exact ⟨_, _, hv⟩

set_option maxHeartbeats 1000000 in
theorem May_len (a : Option Addr) (n c : Nat) (P : List Int) (W B T : Int) (w : World) (h : Rd w a n c P) (hn : n ≠ 26) :
    Calls Try.prog 8 #[.agg (gmA a n c W B T)] w fun e w' => e = .returned (.bool (mayG P W B T)) ∧ Below w.heap.size w w' := by
  have hb1 : ((n : Int) == 26) = false := by simp; omega
  have hb2 : ((n : Int) != 26) = true := by simp; omega
  have HV : Hid (mayG P W B T = false) := hide (by simp only [mayG, decide_eq_false_iff_not]; intro hm; exact hn (by rw [← h.len]; exact hm.1))
  clear h hn
  go_enter Try.func8, Try.ntmps8
  go_wp2
  go_ret
  exact ⟨ret_bool HV.out.symm, (Below.refl _ _).alloc (Nat.le_refl _) _⟩

theorem Rd.alloc {w : World} {a n c zs} (h : Rd w a n c zs) (o : Obj) : Rd (w.alloc o) a n c zs := h.mono ((Below.refl _ _).alloc (Nat.le_refl _) _)

theorem own_new (base : Nat) (w : World) (x : Int) (hb : base ≤ w.heap.size) : (w.alloc (.cells #[.int .i64 x] 3)).ownsRow base 3 1 (.slice (some ⟨w.heap.size, 0, none⟩) 1 1) 1 [.int .i64 x] := by
  have := World.ownsRow_lit (base := base) (e := 3) (size := 1) w #[.int .i64 x] 1 hb (by unfold maxLen; omega) rfl
  simpa using this

theorem own_two (w : World) (o : Obj) (x y : Int) : (((w.alloc o).alloc (.cells #[.int .i64 x] 3)).alloc (.cells #[.int .i64 y] 3)).drew.ownsRow w.heap.size 3 1 (.slice (some ⟨w.heap.size + 1, 0, none⟩) 1 1) 1 [.int .i64 x]
    ∧ (((w.alloc o).alloc (.cells #[.int .i64 x] 3)).alloc (.cells #[.int .i64 y] 3)).drew.ownsRow w.heap.size 3 1 (.slice (some ⟨w.heap.size + 1 + 1, 0, none⟩) 1 1) 1 [.int .i64 y]
    ∧ Below w.heap.size w (((w.alloc o).alloc (.cells #[.int .i64 x] 3)).alloc (.cells #[.int .i64 y] 3)).drew := by
  have h1 := own_new w.heap.size (w.alloc o) x (by simp)
  have h2 := own_new w.heap.size ((w.alloc o).alloc (.cells #[.int .i64 x] 3)) y (by simp; omega)
  simp only [World.size_alloc] at h1 h2
  refine ⟨(h1.alloc _).drew, h2.drew, ?_⟩
  exact ((((Below.refl _ _).alloc (Nat.le_refl _) _).alloc (by simp) _).alloc (by simp; omega) _).drew

set_option maxHeartbeats 4000000 in
theorem May_any (a : Option Addr) (n c : Nat) (P : List Int) (W B T : Int) (w : World) (h : Rd w a n c P) (hP : ∀ z ∈ P, -9223372036854775808 ≤ z ∧ z ≤ 9223372036854775807) :
    Calls Try.prog 8 #[.agg (gmA a n c W B T)] w fun e w' => e = .returned (.bool (mayG P W B T)) ∧ Below w.heap.size w w' := by
  by_cases hn : n = 26
  rotate_left
  · exact May_len a n c P W B T w h hn
  subst hn
  obtain ⟨b, off, rfl, hc⟩ := h.cells (by omega)
  have hlen := h.len
  have c0 := hc 0 (by omega)
  have c25 := hc 25 (by omega)
  simp only [Nat.add_zero] at c0
  have hbs : b < w.heap.size := World.block_lt_of_cell? w _ c0
  obtain ⟨z0, hz0⟩ : ∃ z, P.getD 0 0 = z := ⟨_, rfl⟩
  obtain ⟨z25, hz25⟩ : ∃ z, P.getD 25 0 = z := ⟨_, rfl⟩
  rw [hz0] at c0
  rw [hz25] at c25
  have HH := hide h
  have HP := hide hP
  have HZ0 := hide hz0
  have HZ25 := hide hz25
  have HC := hide hc
  clear h hP hz0 hz25 hc
  by_cases g0 : z0 = 0
  rotate_left
  · have q1 : (z0 == 0) = false := by simpa using g0
    have q2 : (z0 != 0) = true := by simpa using g0
    have HV : Hid (mayG P W B T = false) := hide (by simp only [mayG, decide_eq_false_iff_not]; intro hm; exact g0 (HZ0.out ▸ hm.2.1))
    clear g0
    go_enter Try.func8, Try.ntmps8
    go_wp2
    go_ret
    exact ⟨ret_bool HV.out.symm, (Below.refl _ _).alloc (Nat.le_refl _) _⟩
  subst g0
  by_cases g25 : z25 = 0
  rotate_left
  · have q1 : (z25 == 0) = false := by simpa using g25
    have q2 : (z25 != 0) = true := by simpa using g25
    have HV : Hid (mayG P W B T = false) := hide (by simp only [mayG, decide_eq_false_iff_not]; intro hm; exact g25 (HZ25.out ▸ hm.2.2.1))
    clear g25
    go_enter Try.func8, Try.ntmps8
    go_wp2
    go_ret
    exact ⟨ret_bool HV.out.symm, (Below.refl _ _).alloc (Nat.le_refl _) _⟩
  subst g25
  by_cases gW : W < 0
  · have HV : Hid (mayG P W B T = false) := hide (by simp only [mayG, decide_eq_false_iff_not]; intro hm; have := hm.2.2.2.1; omega)
    go_enter Try.func8, Try.ntmps8
    go_wp2
    go_ret
    exact ⟨ret_bool HV.out.symm, (Below.refl _ _).alloc (Nat.le_refl _) _⟩
  have qW : decide (W < 0) = false := by simpa using gW
  by_cases gB : B < 0
  · have HV : Hid (mayG P W B T = false) := hide (by simp only [mayG, decide_eq_false_iff_not]; intro hm; have := hm.2.2.2.2.1; omega)
    go_enter Try.func8, Try.ntmps8
    go_wp2
    go_ret
    exact ⟨ret_bool HV.out.symm, (Below.refl _ _).alloc (Nat.le_refl _) _⟩
  have qB : decide (B < 0) = false := by simpa using gB
  by_cases gT : T = 0 ∨ T = 1
  rotate_left
  · have q1 : wtB T = true := by simp only [wtB, decide_eq_true_eq]; exact gT
    have HV : Hid (mayG P W B T = false) := hide (by simp only [mayG, decide_eq_false_iff_not]; intro hm; exact gT hm.2.2.2.2.2.1)
    clear gT
    go_enter Try.func8, Try.ntmps8
    go_wp2_with (go_at_call 25; refine (wrongTurn_any _ _).mono ?_; rintro e w' ⟨rfl, hw'⟩; subst w')
    go_wp2
    go_ret
    exact ⟨ret_bool HV.out.symm, (Below.refl _ _).alloc (Nat.le_refl _) _⟩
  have q1 : wtB T = false := by simp only [wtB, decide_eq_false_iff_not]; exact fun h => h gT
  have HT := hide gT
  clear gT
  go_enter Try.func8, Try.ntmps8
  go_wp2_with (go_at_call 25; refine (wrongTurn_any _ _).mono ?_; rintro e w' ⟨rfl, hw'⟩; subst w')
  go_region
  all_goals
    go_wp2_with fail
    go_loopw [3, 4, 47] (fun v3 v4 v9 wr => ∃ (k : Nat), v9 = .int .i64 k ∧ k ≤ 26 ∧ (∃ a3 d3, v3 = .slice a3 (k + 1) d3) ∧ (∃ a4 d4, v4 = .slice a4 (k + 1) d4) ∧ Hid (wr.ownsRow w.heap.size 3 1 v3 (k + 1) ((ws W (P.take k)).map (Value.int .i64))) ∧ Hid (wr.ownsRow w.heap.size 3 1 v4 (k + 1) ((bs B (P.take k)).map (Value.int .i64))) ∧ Hid (v3.ownBlock ≠ v4.ownBlock) ∧ Hid (∀ i, i < k → -15 ≤ P.getD i 0) ∧ Hid (Below w.heap.size w wr)) (fun _ _ v9 _ => 26 - (intOf v9).toNat)
    case atStart =>
      first
        | exact ⟨0, rfl, by omega, ⟨_, _, rfl⟩, ⟨_, _, rfl⟩, (own_two w _ W B).1, (own_two w _ W B).2.1, (by show _ ≠ _; simp [Value.ownBlock]), (by intro i hi; omega), (own_two w _ W B).2.2⟩
        | exact ⟨0, rfl, by omega, ⟨_, _, rfl⟩, ⟨_, _, rfl⟩, (own_two w _ B W).2.1, (own_two w _ B W).1, (by show _ ≠ _; simp [Value.ownBlock]), (by intro i hi; omega), (own_two w _ B W).2.2⟩
    case round =>
      obtain ⟨k, rfl, hk, ⟨a3, d3, rfl⟩, ⟨a4, d4, rfl⟩, h3, h4, hne, hlow, hB⟩ := hrel
      by_cases hk26 : k < 26
      · have hlt : (k : Int) < 26 := by omega
        have hcw : wr.cell? ⟨b, off + k, none⟩ = some (.int .i64 (P.getD k 0)) := (hB.out.cell (p := ⟨b, off + k, none⟩) hbs).trans (HC.out k hk26)
        have hbw : b < wr.heap.size := World.block_lt_of_cell? wr _ hcw
        have hzr := HP.out _ (getD_mem (zs := P) (k := k) (by omega))
        have e3 := hide (ws_snoc W P k (by omega))
        have e4 := hide (bs_snoc B P k (by omega))
        have hstep : Hid (-15 ≤ P.getD k 0 → ∀ i, i < k + 1 → -15 ≤ P.getD i 0) := hide (by
          intro hz i hi
          by_cases hik : i < k
          · exact hlow.out i hik
          · obtain rfl : i = k := by omega
            exact hz)
        have hbad : Hid (P.getD k 0 < -15 → mayG P W B T = false) := hide (by
          intro hz
          simp only [mayG, decide_eq_false_iff_not]
          intro hm
          have := hm.low _ (getD_mem (zs := P) (k := k) (by omega))
          omega)
        generalize P.getD k 0 = z at *
        have u1 := up_max z
        have u2 := up_max (-z)
        by_cases hz : z < -15
        · have HV := hide (hbad.out hz)
          go_wp2
          go_ret
          exact ⟨ret_bool HV.out.symm, hB.out⟩
        · have hzd : decide (z < -15) = false := by simpa using hz
          have HST := hide (hstep.out (by omega))
          clear hbad hstep u1 u2
          rcases (show z < 0 ∨ 0 < z ∨ z = 0 by omega) with hs | hs | hs
          · have eU : up z = 0 := by unfold up; split <;> omega
            have eD : up (-z) = -z := by unfold up; split <;> omega
            have t1 : decide (z < 0) = true := by simpa using hs
            have t2 : decide (0 < -z) = true := by simp; omega
            have t3 : decide (-z < 0) = false := by simp; omega
            go_wp2_with (at_builtin; refine wpList_append_new _ rfl (.tmp 53) (.tmp 56) rfl w.heap.size _ (k + 1) (ws W (P.take k)) rfl (h3.out.alloc _) _ 1 [0] rfl (Rd_one _ _) (by omega) (by have := hB.out.size; simp; omega) ?_)
            intro v5 w5 o5 g5 p5
            obtain ⟨a5, d5, rfl⟩ := slice_form o5
            have b5 : Below w.heap.size w w5 := (hB.out.alloc hB.out.size _).grown g5 (hB.out.alloc hB.out.size _).size (fun j hj => (h3.out.lt j hj).1)
            have q5 := (h4.out.alloc (.cells #[.int .i64 (0)] 3)).kept g5 (Or.inr (Ne.symm hne.out))
            have n5 : (Value.slice a5 (k + 1 + 1) d5).ownBlock ≠ (Value.slice a4 (k + 1) d4).ownBlock := by
              rcases p5 with p5 | p5
              · rw [p5]; exact hne.out
              · rw [p5]; intro hh; have := (h4.out.lt _ hh.symm).2; first | omega | (simp at this; omega)
            have O5 := hide o5
            have B5 := hide b5
            have Q5 := hide q5
            have N5 := hide n5
            clear o5 g5 p5 b5 q5 n5
            go_wp2_with (at_builtin; refine wpList_append_new _ rfl (.tmp 58) (.tmp 62) rfl w.heap.size _ (k + 1) (bs B (P.take k)) rfl (Q5.out.alloc _) _ 1 [-z] rfl (Rd_one _ _) (by omega) (by have := B5.out.size; simp; omega) ?_)
            intro v6 w6 o6 g6 p6
            obtain ⟨a6, d6, rfl⟩ := slice_form o6
            have b6 : Below w.heap.size w w6 := (B5.out.alloc B5.out.size _).grown g6 (B5.out.alloc B5.out.size _).size (fun j hj => (Q5.out.lt j hj).1)
            have q6 := (O5.out.alloc (.cells #[.int .i64 (-z)] 3)).kept g6 (Or.inr N5.out)
            have n6 : (Value.slice a5 (k + 1 + 1) d5).ownBlock ≠ (Value.slice a6 (k + 1 + 1) d6).ownBlock := by
              rcases p6 with p6 | p6
              · rw [p6]; exact N5.out
              · rw [p6]; intro hh; have := (O5.out.lt _ hh).2; first | omega | (simp at this; omega)
            have O6 := hide o6
            have B6 := hide b6
            have Q6 := hide q6
            have N6 := hide n6
            clear o6 g6 p6 b6 q6 n6
            go_wp2
            refine ⟨⟨k + 1, rfl, by omega, ⟨_, _, rfl⟩, ⟨_, _, rfl⟩, ?_, ?_, N6.out, HST.out, B6.out⟩, by simp [intOf]; omega⟩
            · rw [e3.out, eU, List.map_append]; exact Q6.out
            · rw [e4.out, eD, List.map_append]; exact O6.out
          · have eU : up z = z := by unfold up; split <;> omega
            have eD : up (-z) = 0 := by unfold up; split <;> omega
            have t1 : decide (z < 0) = false := by simp; omega
            have t2 : decide (-z < 0) = true := by simp; omega
            go_wp2_with (at_builtin; refine wpList_append_new _ rfl (.tmp 53) (.tmp 56) rfl w.heap.size _ (k + 1) (ws W (P.take k)) rfl (h3.out.alloc _) _ 1 [z] rfl (Rd_one _ _) (by omega) (by have := hB.out.size; simp; omega) ?_)
            intro v5 w5 o5 g5 p5
            obtain ⟨a5, d5, rfl⟩ := slice_form o5
            have b5 : Below w.heap.size w w5 := (hB.out.alloc hB.out.size _).grown g5 (hB.out.alloc hB.out.size _).size (fun j hj => (h3.out.lt j hj).1)
            have q5 := (h4.out.alloc (.cells #[.int .i64 (z)] 3)).kept g5 (Or.inr (Ne.symm hne.out))
            have n5 : (Value.slice a5 (k + 1 + 1) d5).ownBlock ≠ (Value.slice a4 (k + 1) d4).ownBlock := by
              rcases p5 with p5 | p5
              · rw [p5]; exact hne.out
              · rw [p5]; intro hh; have := (h4.out.lt _ hh.symm).2; first | omega | (simp at this; omega)
            have O5 := hide o5
            have B5 := hide b5
            have Q5 := hide q5
            have N5 := hide n5
            clear o5 g5 p5 b5 q5 n5
            go_wp2_with (at_builtin; refine wpList_append_new _ rfl (.tmp 58) (.tmp 62) rfl w.heap.size _ (k + 1) (bs B (P.take k)) rfl (Q5.out.alloc _) _ 1 [0] rfl (Rd_one _ _) (by omega) (by have := B5.out.size; simp; omega) ?_)
            intro v6 w6 o6 g6 p6
            obtain ⟨a6, d6, rfl⟩ := slice_form o6
            have b6 : Below w.heap.size w w6 := (B5.out.alloc B5.out.size _).grown g6 (B5.out.alloc B5.out.size _).size (fun j hj => (Q5.out.lt j hj).1)
            have q6 := (O5.out.alloc (.cells #[.int .i64 (0)] 3)).kept g6 (Or.inr N5.out)
            have n6 : (Value.slice a5 (k + 1 + 1) d5).ownBlock ≠ (Value.slice a6 (k + 1 + 1) d6).ownBlock := by
              rcases p6 with p6 | p6
              · rw [p6]; exact N5.out
              · rw [p6]; intro hh; have := (O5.out.lt _ hh).2; first | omega | (simp at this; omega)
            have O6 := hide o6
            have B6 := hide b6
            have Q6 := hide q6
            have N6 := hide n6
            clear o6 g6 p6 b6 q6 n6
            go_wp2
            refine ⟨⟨k + 1, rfl, by omega, ⟨_, _, rfl⟩, ⟨_, _, rfl⟩, ?_, ?_, N6.out, HST.out, B6.out⟩, by simp [intOf]; omega⟩
            · rw [e3.out, eU, List.map_append]; exact Q6.out
            · rw [e4.out, eD, List.map_append]; exact O6.out
          · subst hs
            have eU : up 0 = 0 := rfl
            have eD : up (-0) = 0 := rfl
            go_wp2_with (at_builtin; refine wpList_append_new _ rfl (.tmp 53) (.tmp 56) rfl w.heap.size _ (k + 1) (ws W (P.take k)) rfl (h3.out.alloc _) _ 1 [0] rfl (Rd_one _ _) (by omega) (by have := hB.out.size; simp; omega) ?_)
            intro v5 w5 o5 g5 p5
            obtain ⟨a5, d5, rfl⟩ := slice_form o5
            have b5 : Below w.heap.size w w5 := (hB.out.alloc hB.out.size _).grown g5 (hB.out.alloc hB.out.size _).size (fun j hj => (h3.out.lt j hj).1)
            have q5 := (h4.out.alloc (.cells #[.int .i64 (0)] 3)).kept g5 (Or.inr (Ne.symm hne.out))
            have n5 : (Value.slice a5 (k + 1 + 1) d5).ownBlock ≠ (Value.slice a4 (k + 1) d4).ownBlock := by
              rcases p5 with p5 | p5
              · rw [p5]; exact hne.out
              · rw [p5]; intro hh; have := (h4.out.lt _ hh.symm).2; first | omega | (simp at this; omega)
            have O5 := hide o5
            have B5 := hide b5
            have Q5 := hide q5
            have N5 := hide n5
            clear o5 g5 p5 b5 q5 n5
            go_wp2_with (at_builtin; refine wpList_append_new _ rfl (.tmp 58) (.tmp 62) rfl w.heap.size _ (k + 1) (bs B (P.take k)) rfl (Q5.out.alloc _) _ 1 [0] rfl (Rd_one _ _) (by omega) (by have := B5.out.size; simp; omega) ?_)
            intro v6 w6 o6 g6 p6
            obtain ⟨a6, d6, rfl⟩ := slice_form o6
            have b6 : Below w.heap.size w w6 := (B5.out.alloc B5.out.size _).grown g6 (B5.out.alloc B5.out.size _).size (fun j hj => (Q5.out.lt j hj).1)
            have q6 := (O5.out.alloc (.cells #[.int .i64 (0)] 3)).kept g6 (Or.inr N5.out)
            have n6 : (Value.slice a5 (k + 1 + 1) d5).ownBlock ≠ (Value.slice a6 (k + 1 + 1) d6).ownBlock := by
              rcases p6 with p6 | p6
              · rw [p6]; exact N5.out
              · rw [p6]; intro hh; have := (O5.out.lt _ hh).2; first | omega | (simp at this; omega)
            have O6 := hide o6
            have B6 := hide b6
            have Q6 := hide q6
            have N6 := hide n6
            clear o6 g6 p6 b6 q6 n6
            go_wp2
            refine ⟨⟨k + 1, rfl, by omega, ⟨_, _, rfl⟩, ⟨_, _, rfl⟩, ?_, ?_, N6.out, HST.out, B6.out⟩, by simp [intOf]; omega⟩
            · rw [e3.out, eU, List.map_append]; exact Q6.out
            · rw [e4.out, eD, List.map_append]; exact O6.out
      · obtain rfl : k = 26 := by omega
        have hP26 : P.take 26 = P := List.take_of_length_le (by omega)
        rw [hP26] at h3 h4
        have R3 := hide (Rd.of_own h3.out)
        have R4 := hide (Rd.of_own h4.out)
        have HV : Hid (mayG P W B T = (!tmB 15 (ws W P) && !tmB 15 (bs B P))) := hide (by
          simp only [mayG, mayP, tmB, hlen, HZ0.out, HZ25.out, gW, gB, HT.out, true_and]
          rw [Bool.eq_iff_iff]
          simp)
        have WP := hide (ws_pos gW P)
        have BP := hide (bs_pos gB P)
        cases ht1 : tmB 15 (ws W P) with
        | true =>
          go_wp2_with fail
          refine (tooMany_any _ _ _ (ws W P) 15 (by omega) _ R3.out WP.out (by omega)).mono ?_
          rintro e w' ⟨rfl, hw'⟩
          subst w'
          go_wp2
          go_ret
          exact ⟨ret_bool (by rw [HV.out, ht1]; simp), hB.out⟩
        | false =>
          go_wp2_with fail
          refine (tooMany_any _ _ _ (ws W P) 15 (by omega) _ R3.out WP.out (by omega)).mono ?_
          rintro e w' ⟨rfl, hw'⟩
          subst w'
          go_wp2_with fail
          refine (tooMany_any _ _ _ (bs B P) 15 (by omega) _ R4.out BP.out (by omega)).mono ?_
          rintro e w' ⟨rfl, hw'⟩
          subst w'
          go_wp2
          go_ret
          exact ⟨ret_bool (by rw [HV.out, ht1]; simp), hB.out⟩

end Go.Proofs.Ytmboikpcbkiepaa
