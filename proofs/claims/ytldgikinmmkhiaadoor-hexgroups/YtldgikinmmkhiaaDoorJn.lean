/-
  Does a group of places come from side to side? slices.IndexFunc and slices.ContainsFunc with functions that lay memory of their own; joins. No conditions beyond those that each theorem bears.
-/
import Derived.Test.YtldgikinmmkhiaaDoorHb
namespace Go.Proofs.YtldgikinmmkhiaaDoor
open Go.RowKit Go.Shelf

def jnA (n m : Nat) (L : List Nat) : Bool := L.any fun p => decide (ln n m p = 0)
def jnZ (n m : Nat) (L : List Nat) : Bool := L.any fun p => decide (ln n m p + 1 = n)
/-- The places come from the player's one side to its other. -/
def jnB (n m : Nat) (L : List Nat) : Bool := jnA n m L && jnZ n m L

theorem any_take_succ {p : Nat → Bool} {L : List Nat} {k : Nat} (hk : k < L.length) (h : (L.take k).any p = false) (h2 : p (L.getD k 0) = false) : (L.take (k + 1)).any p = false := by
  rw [List.take_succ_eq_append_getElem hk, List.any_append, h]
  simp [List.getD, hk] at h2
  simp [h2]

theorem any_at {p : Nat → Bool} {L : List Nat} {k : Nat} (hk : k < L.length) (h2 : p (L.getD k 0) = true) : L.any p = true := by
  rw [List.any_eq_true]
  simp [List.getD, hk] at h2
  exact ⟨_, List.getElem_mem hk, h2⟩

/-- What the two functions have captured. -/
structure JnR (bb wb n : Nat) (a : Option Addr) (N c m : Nat) (W : World) : Prop where
  b : Hb W bb n n a N c
  w : W.cell? ⟨wb, 0, none⟩ = some (.int .i64 m)

theorem JnR.mono {bb wb n : Nat} {a : Option Addr} {N c m : Nat} {W W' : World} (h : JnR bb wb n a N c m W) (hb : Below W.heap.size W W') : JnR bb wb n a N c m W' :=
  ⟨h.b.below hb h.b.lt, (hb.cell (p := ⟨wb, 0, none⟩) (World.block_lt_of_cell? W _ h.w)).trans h.w⟩

set_option maxHeartbeats 1000000 in
theorem f55_any (bb wb n : Nat) (a : Option Addr) (N c p m : Nat) (hn : 1 ≤ n ∧ n ≤ 10) (hp : p < n * n) (hm : m = 1 ∨ m = 2) (w : World) (hR : JnR bb wb n a N c m w) :
    Calls Tryd.prog 55 #[.int .i64 p, .pointer (some ⟨bb, 0, none⟩), .pointer (some ⟨wb, 0, none⟩)] w fun e w' => e = .returned (.bool ((fun p => decide (ln n m p = 0)) p)) ∧ Below w.heap.size w w' := by
  have HC := hide (first_any n a N c p m hn hp hm w)
  have hG := hR.b
  have hw := hR.w
  clear hR
  go_enter Tryd.func55, Tryd.ntmps55
  go_wp2_with (first | (refine wpList_load_hb rfl (.tmp 1) rfl bb rfl hG ?_) | fail)
  refine HC.out.mono ?_
  rintro e w2 ⟨rfl, hb⟩
  have HB := hide hb
  clear hG hw hb HC
  go_wp2_with fail
  go_ret
  exact ⟨rfl, HB.out⟩

set_option maxHeartbeats 2000000 in
theorem ixA_any (bb wb n : Nat) (a : Option Addr) (N c m : Nat) (hn : 1 ≤ n ∧ n ≤ 10) (hm : m = 1 ∨ m = 2) (ga : Option Addr) (gc gl : Nat) (L : List Nat) (hgl : L.length = gl) (hl : gl ≤ 1000) (hL : ∀ x ∈ L, x < n * n) (w : World) (hR : JnR bb wb n a N c m w) (hg : Rd w ga gl gc (toI L)) :
    Calls Tryd.prog 65 #[.slice ga gl gc, .func (.func 55) #[] #[.pointer (some ⟨bb, 0, none⟩), .pointer (some ⟨wb, 0, none⟩)]] w fun e w' => (∃ r : Int, e = .returned (.int .i64 r) ∧ -1 ≤ r ∧ (0 ≤ r ↔ jnA n m L = true)) ∧ Below w.heap.size w w' := by
  have HF := hide (fun p hp W hR => f55_any bb wb n a N c p m hn hp hm W hR)
  have HR := hide hR
  have HG := hide hg
  have HL := hide hL
  have HGL := hide hgl
  have HJ : Hid (jnA n m L = L.any (fun p => decide (ln n m p = 0))) := hide rfl
  have HPI : Hid (∀ k W, k < gl → Below w.heap.size w W → ∃ b off, ga = some ⟨b, off, none⟩ ∧ W.cell? ⟨b, off + k, none⟩ = some (.int .i64 (L.getD k 0 : Nat))) := hide (fun k W hk hb => by
    obtain ⟨b, off, e, h⟩ := (hg.mono hb).cells (by omega)
    refine ⟨b, off, e, ?_⟩
    rw [h k hk, toI_getD (by omega)])
  have HMX : Hid (gc ≤ maxLen) := hide hg.max
  have HCP : Hid (gl ≤ gc) := hide hg.cap
  obtain ⟨P, hP⟩ : ∃ P : Nat → Bool, P = fun p => decide (ln n m p = 0) := ⟨_, rfl⟩
  rw [← hP] at HJ
  have HF2 : Hid (∀ p, p < n * n → ∀ W, JnR bb wb n a N c m W → Calls Tryd.prog 55 #[.int .i64 p, .pointer (some ⟨bb, 0, none⟩), .pointer (some ⟨wb, 0, none⟩)] W fun e w' => e = .returned (.bool (P p)) ∧ Below W.heap.size W w') := hide (by rw [hP]; exact fun p hp W hR => HF.out p hp W hR)
  clear hR hg hL HF hP hgl
  generalize jnA n m L = V at *
  go_enter Tryd.func65, Tryd.ntmps65
  go_wp2_with fail
  go_loopw [8] (fun v wr => ∃ k : Nat, v = .int .i64 k ∧ k ≤ gl ∧ Hid ((L.take k).any P = false) ∧ Hid (Below w.heap.size w wr)) (fun v _ => gl - (intOf v).toNat)
  case atStart => exact ⟨0, rfl, by omega, hide (by simp), hide (Below.refl _ _)⟩
  case round =>
    obtain ⟨k, rfl, hk, hno, hB⟩ := hrel
    by_cases hlt : k < gl
    · have hlt' : (k : Int) < (gl : Int) := by omega
      obtain ⟨b, off, rfl, hc⟩ := HPI.out k wr hlt hB.out
      have HC := hide (HF2.out (L.getD k 0) (HL.out _ (by have := HGL.out; simp [List.getD, show k < L.length by omega])) wr (HR.out.mono hB.out))
      have HYE := hide (any_at (p := P) (L := L) (k := k) (by rw [HGL.out]; exact hlt))
      have HNO := hide (any_take_succ (p := P) (L := L) (k := k) (by rw [HGL.out]; exact hlt) hno.out)
      generalize L.getD k 0 = X at *
      go_wp2_with fail
      refine HC.out.mono ?_
      rintro e w2 ⟨rfl, hb⟩
      have HB2 := hide (hB.out.trans (hb.mono hB.out.size))
      clear hc hb HC hB
      cases hpx : P X with
      | true =>
        have HY := hide (HYE.out hpx)
        clear HYE HNO hpx
        go_wp2_with fail
        go_ret
        exact ⟨⟨k, rfl, by omega, by rw [HJ.out, HY.out]; simp⟩, HB2.out⟩
      | false =>
        have HN := hide (HNO.out hpx)
        clear HYE HNO hpx
        go_wp2_with fail
        exact ⟨⟨k + 1, rfl, by omega, HN, HB2⟩, by simp only [intOf]; omega⟩
    · obtain rfl : k = gl := by omega
      go_wp2_with fail
      go_ret
      refine ⟨⟨-1, rfl, by omega, ?_⟩, hB.out⟩
      have hno' := hno.out
      rw [List.take_of_length_le (by rw [HGL.out]; exact Nat.le_refl _)] at hno'
      rw [HJ.out, hno']
      simp

set_option maxHeartbeats 1000000 in
theorem cnA_any (bb wb n : Nat) (a : Option Addr) (N c m : Nat) (hn : 1 ≤ n ∧ n ≤ 10) (hm : m = 1 ∨ m = 2) (ga : Option Addr) (gc gl : Nat) (L : List Nat) (hgl : L.length = gl) (hl : gl ≤ 1000) (hL : ∀ x ∈ L, x < n * n) (w : World) (hR : JnR bb wb n a N c m w) (hg : Rd w ga gl gc (toI L)) :
    Calls Tryd.prog 54 #[.slice ga gl gc, .func (.func 55) #[] #[.pointer (some ⟨bb, 0, none⟩), .pointer (some ⟨wb, 0, none⟩)]] w fun e w' => e = .returned (.bool (jnA n m L)) ∧ Below w.heap.size w w' := by
  have HC := hide (ixA_any bb wb n a N c m hn hm ga gc gl L hgl hl hL w hR hg)
  clear hR hg hL hgl
  generalize jnA n m L = V at *
  go_enter Tryd.func54, Tryd.ntmps54
  go_wp2_with fail
  refine HC.out.mono ?_
  rintro e w2 ⟨⟨r, rfl, h1, hr⟩, hb⟩
  have HB := hide hb
  have HV := hide hr
  clear hb hr HC
  by_cases h0 : 0 ≤ r
  · have HE := hide (HV.out.1 h0)
    clear HV
    go_wp2_with fail
    go_ret
    exact ⟨ret_bool HE.out.symm, HB.out⟩
  · have HE : Hid (V = false) := hide (by cases hV : V with | false => rfl | true => exact absurd (HV.out.2 hV) h0)
    clear HV
    go_wp2_with fail
    go_ret
    exact ⟨ret_bool (by rw [HE.out]; exact decide_eq_false (by omega)), HB.out⟩

set_option maxHeartbeats 1000000 in
theorem f57_any (bb wb n : Nat) (a : Option Addr) (N c p m : Nat) (hn : 1 ≤ n ∧ n ≤ 10) (hp : p < n * n) (hm : m = 1 ∨ m = 2) (w : World) (hR : JnR bb wb n a N c m w) :
    Calls Tryd.prog 57 #[.int .i64 p, .pointer (some ⟨bb, 0, none⟩), .pointer (some ⟨wb, 0, none⟩)] w fun e w' => e = .returned (.bool ((fun p => decide (ln n m p + 1 = n)) p)) ∧ Below w.heap.size w w' := by
  have HC := hide (last_any n a N c p m hn hp hm w)
  have hG := hR.b
  have hw := hR.w
  clear hR
  go_enter Tryd.func57, Tryd.ntmps57
  go_wp2_with (first | (refine wpList_load_hb rfl (.tmp 1) rfl bb rfl hG ?_) | fail)
  refine HC.out.mono ?_
  rintro e w2 ⟨rfl, hb⟩
  have HB := hide hb
  clear hG hw hb HC
  go_wp2_with fail
  go_ret
  exact ⟨rfl, HB.out⟩

set_option maxHeartbeats 2000000 in
theorem ixZ_any (bb wb n : Nat) (a : Option Addr) (N c m : Nat) (hn : 1 ≤ n ∧ n ≤ 10) (hm : m = 1 ∨ m = 2) (ga : Option Addr) (gc gl : Nat) (L : List Nat) (hgl : L.length = gl) (hl : gl ≤ 1000) (hL : ∀ x ∈ L, x < n * n) (w : World) (hR : JnR bb wb n a N c m w) (hg : Rd w ga gl gc (toI L)) :
    Calls Tryd.prog 65 #[.slice ga gl gc, .func (.func 57) #[] #[.pointer (some ⟨bb, 0, none⟩), .pointer (some ⟨wb, 0, none⟩)]] w fun e w' => (∃ r : Int, e = .returned (.int .i64 r) ∧ -1 ≤ r ∧ (0 ≤ r ↔ jnZ n m L = true)) ∧ Below w.heap.size w w' := by
  have HF := hide (fun p hp W hR => f57_any bb wb n a N c p m hn hp hm W hR)
  have HR := hide hR
  have HG := hide hg
  have HL := hide hL
  have HGL := hide hgl
  have HJ : Hid (jnZ n m L = L.any (fun p => decide (ln n m p + 1 = n))) := hide rfl
  have HPI : Hid (∀ k W, k < gl → Below w.heap.size w W → ∃ b off, ga = some ⟨b, off, none⟩ ∧ W.cell? ⟨b, off + k, none⟩ = some (.int .i64 (L.getD k 0 : Nat))) := hide (fun k W hk hb => by
    obtain ⟨b, off, e, h⟩ := (hg.mono hb).cells (by omega)
    refine ⟨b, off, e, ?_⟩
    rw [h k hk, toI_getD (by omega)])
  have HMX : Hid (gc ≤ maxLen) := hide hg.max
  have HCP : Hid (gl ≤ gc) := hide hg.cap
  obtain ⟨P, hP⟩ : ∃ P : Nat → Bool, P = fun p => decide (ln n m p + 1 = n) := ⟨_, rfl⟩
  rw [← hP] at HJ
  have HF2 : Hid (∀ p, p < n * n → ∀ W, JnR bb wb n a N c m W → Calls Tryd.prog 57 #[.int .i64 p, .pointer (some ⟨bb, 0, none⟩), .pointer (some ⟨wb, 0, none⟩)] W fun e w' => e = .returned (.bool (P p)) ∧ Below W.heap.size W w') := hide (by rw [hP]; exact fun p hp W hR => HF.out p hp W hR)
  clear hR hg hL HF hP hgl
  generalize jnZ n m L = V at *
  go_enter Tryd.func65, Tryd.ntmps65
  go_wp2_with fail
  go_loopw [8] (fun v wr => ∃ k : Nat, v = .int .i64 k ∧ k ≤ gl ∧ Hid ((L.take k).any P = false) ∧ Hid (Below w.heap.size w wr)) (fun v _ => gl - (intOf v).toNat)
  case atStart => exact ⟨0, rfl, by omega, hide (by simp), hide (Below.refl _ _)⟩
  case round =>
    obtain ⟨k, rfl, hk, hno, hB⟩ := hrel
    by_cases hlt : k < gl
    · have hlt' : (k : Int) < (gl : Int) := by omega
      obtain ⟨b, off, rfl, hc⟩ := HPI.out k wr hlt hB.out
      have HC := hide (HF2.out (L.getD k 0) (HL.out _ (by have := HGL.out; simp [List.getD, show k < L.length by omega])) wr (HR.out.mono hB.out))
      have HYE := hide (any_at (p := P) (L := L) (k := k) (by rw [HGL.out]; exact hlt))
      have HNO := hide (any_take_succ (p := P) (L := L) (k := k) (by rw [HGL.out]; exact hlt) hno.out)
      generalize L.getD k 0 = X at *
      go_wp2_with fail
      refine HC.out.mono ?_
      rintro e w2 ⟨rfl, hb⟩
      have HB2 := hide (hB.out.trans (hb.mono hB.out.size))
      clear hc hb HC hB
      cases hpx : P X with
      | true =>
        have HY := hide (HYE.out hpx)
        clear HYE HNO hpx
        go_wp2_with fail
        go_ret
        exact ⟨⟨k, rfl, by omega, by rw [HJ.out, HY.out]; simp⟩, HB2.out⟩
      | false =>
        have HN := hide (HNO.out hpx)
        clear HYE HNO hpx
        go_wp2_with fail
        exact ⟨⟨k + 1, rfl, by omega, HN, HB2⟩, by simp only [intOf]; omega⟩
    · obtain rfl : k = gl := by omega
      go_wp2_with fail
      go_ret
      refine ⟨⟨-1, rfl, by omega, ?_⟩, hB.out⟩
      have hno' := hno.out
      rw [List.take_of_length_le (by rw [HGL.out]; exact Nat.le_refl _)] at hno'
      rw [HJ.out, hno']
      simp

set_option maxHeartbeats 1000000 in
theorem cnZ_any (bb wb n : Nat) (a : Option Addr) (N c m : Nat) (hn : 1 ≤ n ∧ n ≤ 10) (hm : m = 1 ∨ m = 2) (ga : Option Addr) (gc gl : Nat) (L : List Nat) (hgl : L.length = gl) (hl : gl ≤ 1000) (hL : ∀ x ∈ L, x < n * n) (w : World) (hR : JnR bb wb n a N c m w) (hg : Rd w ga gl gc (toI L)) :
    Calls Tryd.prog 54 #[.slice ga gl gc, .func (.func 57) #[] #[.pointer (some ⟨bb, 0, none⟩), .pointer (some ⟨wb, 0, none⟩)]] w fun e w' => e = .returned (.bool (jnZ n m L)) ∧ Below w.heap.size w w' := by
  have HC := hide (ixZ_any bb wb n a N c m hn hm ga gc gl L hgl hl hL w hR hg)
  clear hR hg hL hgl
  generalize jnZ n m L = V at *
  go_enter Tryd.func54, Tryd.ntmps54
  go_wp2_with fail
  refine HC.out.mono ?_
  rintro e w2 ⟨⟨r, rfl, h1, hr⟩, hb⟩
  have HB := hide hb
  have HV := hide hr
  clear hb hr HC
  by_cases h0 : 0 ≤ r
  · have HE := hide (HV.out.1 h0)
    clear HV
    go_wp2_with fail
    go_ret
    exact ⟨ret_bool HE.out.symm, HB.out⟩
  · have HE : Hid (V = false) := hide (by cases hV : V with | false => rfl | true => exact absurd (HV.out.2 hV) h0)
    clear HV
    go_wp2_with fail
    go_ret
    exact ⟨ret_bool (by rw [HE.out]; exact decide_eq_false (by omega)), HB.out⟩

set_option maxHeartbeats 2000000 in
theorem joins_any (n : Nat) (a : Option Addr) (N c m : Nat) (hn : 1 ≤ n ∧ n ≤ 10) (hm : m = 1 ∨ m = 2) (ga : Option Addr) (gc gl : Nat) (L : List Nat) (hgl : L.length = gl) (hl : gl ≤ 1000) (hL : ∀ x ∈ L, x < n * n) (w : World) (hg : Rd w ga gl gc (toI L)) :
    Calls Tryd.prog 44 #[.agg (gdA n n a N c), .slice ga gl gc, .int .i64 m] w fun e w' => e = .returned (.bool (jnB n m L)) ∧ Below w.heap.size w w' := by
  obtain ⟨w1, hw1⟩ : ∃ w1, (w.alloc (.cells (gdA n n a N c) 55)).alloc (.cells #[.int .i64 m] 3) = w1 := ⟨_, rfl⟩
  have B1 : Below w.heap.size w w1 := by rw [← hw1]; exact ((Below.refl _ w).alloc (Nat.le_refl _) _).alloc (by simp) _
  have R1 : JnR w.heap.size (w.heap.size + 1) n a N c m w1 := by
    rw [← hw1]
    refine ⟨(Hb.new w n n a N c).old _, ?_⟩
    have := new_cell (w.alloc (.cells (gdA n n a N c) 55)) (.int .i64 m) 3
    rwa [World.size_alloc] at this
  have HA := hide (cnA_any w.heap.size (w.heap.size + 1) n a N c m hn hm ga gc gl L hgl hl hL w1 R1 (hg.mono B1))
  have HZ := hide (fun W hb => cnZ_any w.heap.size (w.heap.size + 1) n a N c m hn hm ga gc gl L hgl hl hL W (R1.mono hb) ((hg.mono B1).mono hb))
  have HV : Hid (jnB n m L = (jnA n m L && jnZ n m L)) := hide rfl
  have HB1 := hide B1
  have hs1 := B1.size
  clear hg hL hgl R1 B1
  generalize jnB n m L = V at *
  generalize jnA n m L = VA at *
  generalize jnZ n m L = VZ at *
  go_enter Tryd.func44, Tryd.ntmps44
  go_upto_region 1 with fail
  clear hw1
  go_wp2_with fail
  refine HA.out.mono ?_
  rintro e w2 ⟨rfl, hb⟩
  have HB2 := hide (HB1.out.trans (hb.mono hs1))
  cases VA with
  | false =>
    clear hb HZ HA
    go_wp2_with fail
    go_ret
    exact ⟨ret_bool (by rw [HV.out]; rfl), HB2.out⟩
  | true =>
    have HC := hide (HZ.out w2 hb)
    have hs2 := HB2.out.size
    clear hb HZ HA
    go_wp2_with fail
    refine HC.out.mono ?_
    rintro e w3 ⟨rfl, hb⟩
    have HB3 := hide (HB2.out.trans (hb.mono hs2))
    clear hb HC
    go_wp2_with fail
    go_ret
    exact ⟨ret_bool (by rw [HV.out]; rfl), HB3.out⟩

end Go.Proofs.YtldgikinmmkhiaaDoor
