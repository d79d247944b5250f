/-
  What the document says of pits; slices that are written to. No conditions beyond those that each theorem bears.
-/
import Derived.Test.YtmdnoiebodaikaaRef1
namespace Go.Proofs.Ytmdnoiebodaikaa
open Go.RowKit

/-- A row of numbers that may be written to. -/
def Rw (w : World) (g : Nat) (L : List Int) : Prop := ∃ cur : Array Value, w.heap[g]? = some (.cells cur 3 (0, 0)) ∧ L.length ≤ cur.size ∧ cur.toList.take L.length = ivs L

theorem Rw.lt {w : World} {g : Nat} {L : List Int} (h : Rw w g L) : g < w.heap.size := by
  obtain ⟨cur, hg, _⟩ := h
  exact (Array.getElem?_eq_some_iff.1 hg).1

theorem Rw.cell {w : World} {g : Nat} {L : List Int} (h : Rw w g L) {i : Nat} (hi : i < L.length) : w.cell? ⟨g, i, none⟩ = some (.int .i64 (L.getD i 0)) := by
  obtain ⟨cur, hg, hl, ht⟩ := h
  have e : cur[i]? = some (.int .i64 (L.getD i 0)) := by
    have := congrArg (fun l => l[i]?) ht
    simpa [ivs, List.getElem?_take, hi, List.getD] using this
  simp [World.cell?, hg, e]

theorem Rw.frozen {w : World} {g : Nat} {L : List Int} (h : Rw w g L) (i : Nat) : w.frozen? ⟨g, i, none⟩ = false := by
  obtain ⟨cur, hg, _⟩ := h
  simp [World.frozen?, hg]

theorem Rw.set {w : World} {g : Nat} {L : List Int} (h : Rw w g L) (i : Nat) (x : Int) : Rw (w.setCell ⟨g, i, none⟩ (.int .i64 x)) g (L.set i x) := by
  obtain ⟨cur, hg, hl, ht⟩ := h
  refine ⟨cur.setIfInBounds i (.int .i64 x), ?_, by simpa using hl, ?_⟩
  · simp [World.setCell, Array.getElem?_modify, hg]
  · rw [List.length_set, Array.toList_setIfInBounds, List.take_set, ht]
    simp [ivs, List.map_set]

theorem Rw.keeps {X : Nat → Prop} {w w' : World} {g : Nat} {L : List Int} (h : Rw w g L) (hk : Keeps X w w') (hb : ¬ X g) : Rw w' g L := by
  have := h.lt
  obtain ⟨cur, hg, r⟩ := h
  exact ⟨cur, (hk.block g this hb).trans hg, r⟩

theorem Rw.below {w w' : World} {g B : Nat} {L : List Int} (h : Rw w g L) (hk : Below B w w') (hb : g < B) : Rw w' g L := by
  obtain ⟨cur, hg, r⟩ := h
  exact ⟨cur, (hk.block g hb).trans hg, r⟩

theorem Rw.of_own {w : World} {base n c : Nat} {a : Option Addr} {L : List Int} (h : w.ownsRow base 3 1 (.slice a n c) n (L.map (Value.int .i64))) (hn : 0 < n) : ∃ g, a = some ⟨g, 0, none⟩ ∧ base ≤ g ∧ n ≤ c ∧ c ≤ maxLen ∧ Rw w g L := by
  have hl : L.length = n := by simpa using h.1
  rcases h.2 with ⟨hv, h0⟩ | ⟨g, cap, cur, hv, hb, hg, hnc, hcm, hcs, ht⟩
  · omega
  · simp only [Value.slice.injEq] at hv
    obtain ⟨rfl, -, rfl⟩ := hv
    exact ⟨g, rfl, hb, hnc, hcm, cur, hg, by rw [hcs, hl]; omega, by rw [hl]; simpa [ivs] using ht⟩

theorem Rw.rd {w : World} {g n c : Nat} {L : List Int} (h : Rw w g L) (hn : L.length = n) (hc : n ≤ c) (hm : c ≤ maxLen) : Rd w (some ⟨g, 0, none⟩) n c L :=
  ⟨hn, hc, hm, (fun h => by simp at h), fun _ => ⟨g, 0, rfl, fun i hi => by rw [Nat.zero_add]; exact h.cell (by omega)⟩⟩

def emB (p x : Nat) (S : List Int) : Bool := decide (inP p x S = 0)

theorem emB_no {p x k : Nat} {S : List Int} (hf : Fit p S) (hx : x ≤ 1) (hk : k < p) (h : 0 < S.getD (pl p x k) 0) : emB p x S = false := by
  have := sumN_le (f := fun i => S.getD (pl p x i) 0) p (fun i hi => hf.pos _ (pl_lt hx (by omega))) k hk
  have e : inP p x S = sumN p (fun i => S.getD (pl p x i) 0) := rfl
  simp [emB]
  omega

theorem emB_yes {p x : Nat} {S : List Int} (h : inK p x p S = 0) : emB p x S = true := by
  rw [inK_all] at h
  simp [emB, h]

set_option maxHeartbeats 1000000 in
theorem pitsEmpty_any (a : Option Addr) (n c p x : Nat) (t : Int) (S : List Int) (w : World) (hR : Rd w a n c S) (hn : 2 * (p + 1) = n) (hp : p ≤ 6) (hx : x ≤ 1) (hf : Fit p S) :
    Calls Try.prog 41 #[.agg (mA a n c t), .int .i64 x] w fun e w' => e = .returned (.bool (emB p x S)) ∧ Below w.heap.size w w' := by
  obtain ⟨b, off, rfl, hc⟩ := hR.cells (by omega)
  have hbl : b < w.heap.size := World.block_lt_of_cell? w _ (hc 0 (by omega))
  have M0 := Mn.new w (some ⟨b, off, none⟩) n c t
  have m0 := M0.seeds
  have HB := hide (show Below w.heap.size w (w.alloc (Obj.cells (mA (some ⟨b, off, none⟩) n c t) 24)) from (Below.refl _ w).alloc (Nat.le_refl _) _)
  have HC : Hid (∀ i, i < n → (w.alloc (Obj.cells (mA (some ⟨b, off, none⟩) n c t) 24)).cell? ⟨b, off + i, none⟩ = some (.int .i64 (S.getD i 0))) := hide (fun i hi => (HB.out.cell (p := ⟨b, off + i, none⟩) hbl).trans (hc i hi))
  have hq2 : (n : Int) / 2 = ((p + 1 : Nat) : Int) := by omega
  have hmul : (x : Int) * ((p : Int) + 1) = ((x * (p + 1) : Nat) : Int) := by simp
  have hle : x * (p + 1) ≤ 7 := by
    have := Nat.mul_le_mul hx (show p + 1 ≤ 7 by omega)
    omega
  have HX : Hid (∀ k, pl p x k = x * (p + 1) + k) := hide (fun k => rfl)
  have HXB : Hid (x * (p + 1) + p < n) := hide (by have := pl_lt (p := p) hx (Nat.le_refl p); unfold pl at this; omega)
  generalize x * (p + 1) = X at *
  have HF := hide hf
  clear M0 hc hf
  have HN := hide hn
  have hn14 : n ≤ 14 := by omega
  clear hn
  go_enter Try.func41, Try.ntmps41
  go_wp2
  go_loop [6] (fun v => ∃ k : Nat, v = .int .i64 k ∧ k ≤ p ∧ Hid (inK p x k S = 0)) (fun v => p - (intOf v).toNat)
  case atStart => exact ⟨0, rfl, by omega, inK_zero _ _ _⟩
  case round =>
    obtain ⟨k, rfl, hk, hz⟩ := hrel
    by_cases hlt : k < p
    · have hlt' : (k : Int) < (p : Int) := by omega
      have hXk : X + k < n := by have := HXB.out; omega
      have c1 := HC.out (X + k) hXk
      have HNO : Hid (0 < S.getD (X + k) 0 → emB p x S = false) := hide (fun h => emB_no HF.out hx hlt (by rw [HX.out]; exact h))
      have HYE : Hid (¬ 0 < S.getD (X + k) 0 → inK p x (k + 1) S = 0) := hide (fun h => by
        have := HF.out.pos (pl p x k) (pl_lt hx (by omega))
        rw [HX.out] at this
        rw [inK_succ, hz.out, HX.out]
        omega)
      have hxk : (X : Int) + (k : Int) = ((X + k : Nat) : Int) := by omega
      have hXk' : ((X + k : Nat) : Int) < (n : Int) := by omega
      generalize S.getD (X + k) 0 = z at *
      generalize X + k = Y at *
      by_cases hz0 : 0 < z
      · have HV := hide (HNO.out hz0)
        clear HNO HYE
        go_wp2
        go_ret
        exact ⟨ret_bool HV.out.symm, HB.out⟩
      · have hz0' : decide (0 < z) = false := by simpa using hz0
        have HV := hide (HYE.out hz0)
        clear HNO HYE
        go_wp2
        exact ⟨⟨k + 1, by go_num, by omega, HV⟩, by simp [intOf]; omega⟩
    · obtain rfl : k = p := by omega
      have hlt' : ¬ (k : Int) < (k : Int) := by omega
      have HV := hide (emB_yes hz.out)
      go_wp2
      go_ret
      exact ⟨ret_bool HV.out.symm, HB.out⟩

theorem overB_em (p : Nat) (S : List Int) : overB p S = (emB p 0 S || emB p 1 S) := rfl

set_option maxHeartbeats 1000000 in
theorem MOver_any (a : Option Addr) (n c p : Nat) (t : Int) (S : List Int) (w : World) (hR : Rd w a n c S) (hn : 2 * (p + 1) = n) (hp : p ≤ 6) (hf : Fit p S) :
    Calls Try.prog 29 #[.agg (mA a n c t)] w fun e w' => e = .returned (.bool (overB p S)) ∧ Below w.heap.size w w' := by
  have M0 := Mn.new w a n c t
  have HM := hide M0
  have HB := hide (show Below w.heap.size w (w.alloc (Obj.cells (mA a n c t) 24)) from (Below.refl _ w).alloc (Nat.le_refl _) _)
  have HR := hide (hR.mono HB.out)
  have HV := hide (overB_em p S)
  clear M0 hR
  generalize overB p S = ov at *
  go_enter Try.func29, Try.ntmps29
  go_wp2_with (first | refine wpList_load_mn rfl _ rfl w.heap.size rfl HM.out ?_)
  refine (pitsEmpty_any a n c p 0 t S _ HR.out hn hp (by omega) hf).mono ?_
  rintro e w1 ⟨rfl, hw⟩
  have HM1 := hide (HM.out.below hw HM.out.lt)
  have HB1 := hide (HB.out.trans (hw.mono HB.out.size))
  have HR1 := hide (HR.out.mono hw)
  clear hw HM HB HR
  cases h0 : emB p 0 S with
  | true =>
    have HVV : Hid (ov = true) := hide (by rw [HV.out, h0]; rfl)
    clear HV h0
    go_wp2
    go_ret
    exact ⟨ret_bool HVV.out.symm, HB1.out⟩
  | false =>
    have HVV : Hid (ov = emB p 1 S) := hide (by rw [HV.out, h0]; rfl)
    clear HV h0
    go_wp2_with (first | refine wpList_load_mn rfl _ rfl w.heap.size rfl HM1.out ?_)
    refine (pitsEmpty_any a n c p 1 t S _ HR1.out hn hp (by omega) hf).mono ?_
    rintro e w2 ⟨rfl, hw⟩
    have HB2 := hide (HB1.out.trans (hw.mono HB1.out.size))
    clear hw
    go_wp2
    go_ret
    exact ⟨ret_bool HVV.out.symm, HB2.out⟩

/-- All that lies in pits. -/
def inAll (p : Nat) (S : List Int) : Int := inP p 0 S + inP p 1 S

set_option maxHeartbeats 1000000 in
theorem SIP_any (a : Option Addr) (n c p : Nat) (t : Int) (S : List Int) (w : World) (hR : Rd w a n c S) (hn : 2 * (p + 1) = n) (hp : p ≤ 6) (hf : Fit p S) :
    Calls Try.prog 17 #[.agg (mA a n c t)] w fun e w' => e = .returned (.int .i64 (inAll p S)) ∧ Below w.heap.size w w' := by
  obtain ⟨b, off, rfl, hc⟩ := hR.cells (by omega)
  have hbl : b < w.heap.size := World.block_lt_of_cell? w _ (hc 0 (by omega))
  obtain ⟨w0, hw0⟩ : ∃ w0, w.alloc (Obj.cells (mA (some ⟨b, off, none⟩) n c t) 24) = w0 := ⟨_, rfl⟩
  have M0 : Mn w0 w.heap.size (some ⟨b, off, none⟩) n c t := by rw [← hw0]; exact Mn.new w _ n c t
  have HB : Hid (Below w.heap.size w w0) := hide (by rw [← hw0]; exact (Below.refl _ w).alloc (Nat.le_refl _) _)
  have HC : Hid (∀ i, i < n → w0.cell? ⟨b, off + i, none⟩ = some (.int .i64 (S.getD i 0))) := hide (fun i hi => (HB.out.cell (p := ⟨b, off + i, none⟩) hbl).trans (hc i hi))
  have hq2 : (n : Int) / 2 = ((p + 1 : Nat) : Int) := by omega
  have HF := hide hf
  have HM := hide M0
  have m0 := M0.seeds
  clear M0 hc hf
  have HN := hide hn
  have hn14 : n ≤ 14 := by omega
  have hnp : p + 1 + p < n := by omega
  clear hn
  go_enter Try.func17, Try.ntmps17
  go_wp2
  go_loopw [4, 5] (fun s v wr => ∃ k q : Nat, v = .int .i64 k ∧ k ≤ p ∧ s = .int .i64 (inK p 0 k S + inK p 1 k S) ∧ wr = w0.drewN q) (fun _ v _ => p - (intOf v).toNat)
  case atStart => exact ⟨0, 0, rfl, by omega, rfl, rfl⟩
  case round =>
    obtain ⟨k, q, rfl, hk, rfl, rfl⟩ := hrel
    obtain ⟨d1, d2⟩ := inP_step HF.out (show 0 ≤ 1 by omega) k hk
    obtain ⟨d3, d4⟩ := inP_step HF.out (show 1 ≤ 1 by omega) k hk
    by_cases hlt : k < p
    · have hlt' : (k : Int) < (p : Int) := by omega
      have c1 := HC.out k (by omega)
      have c2 := HC.out (p + 1 + k) (by omega)
      have z1 := HF.out.pos k (by omega)
      have z2 := HF.out.le (i := k) (by omega)
      have y1 := HF.out.pos (p + 1 + k) (by omega)
      have y2 := HF.out.le (i := p + 1 + k) (by omega)
      have HS0 : Hid (inK p 0 (k + 1) S = inK p 0 k S + S.getD k 0) := hide (by rw [inK_succ, pl0])
      have HS1 : Hid (inK p 1 (k + 1) S = inK p 1 k S + S.getD (p + 1 + k) 0) := hide (by rw [inK_succ, pl1])
      have hxk : (p : Int) + 1 + (k : Int) = ((p + 1 + k : Nat) : Int) := by omega
      have hkn : (k : Int) < (n : Int) := by omega
      have hYn : ((p + 1 + k : Nat) : Int) < (n : Int) := by omega
      generalize S.getD (p + 1 + k) 0 = y at *
      generalize S.getD k 0 = z at *
      generalize inK p 0 k S = i0 at *
      generalize inK p 1 k S = i1 at *
      generalize p + 1 + k = Y at *
      go_wp2_with fail
      go_quiet (fail)
      go_wp2_with fail
      exact ⟨⟨k + 1, _, by go_num, by omega, by rw [HS0.out, HS1.out]; go_num, rfl⟩, by simp [intOf]; omega⟩
    · obtain rfl : k = p := by omega
      have hlt' : ¬ (k : Int) < (k : Int) := by omega
      go_wp2
      go_ret
      exact ⟨rfl, HB.out.trans (drewN_below _ w0 q)⟩

set_option maxHeartbeats 1000000 in
theorem sameSeeds_any (a a' : Option Addr) (n c n' c' : Nat) (t t' : Int) (S S' : List Int) (w : World) (hR : Rd w a n c S) (hR' : Rd w a' n' c' S') (hS : S = S') (ht : t = t') :
    Calls Try.prog 15 #[.agg (mA a n c t), .agg (mA a' n' c' t')] w fun e w' => e = .returned (.bool true) ∧ Below w.heap.size w w' := by
  subst hS ht
  obtain ⟨w0, hw0⟩ : ∃ w0, (w.alloc (Obj.cells (mA a n c t) 24)).alloc (Obj.cells (mA a' n' c' t) 24) = w0 := ⟨_, rfl⟩
  have M0 : Mn w0 w.heap.size a n c t := by rw [← hw0]; exact (Mn.new w _ n c t).old _
  have M1 : Mn w0 (w.heap.size + 1) a' n' c' t := by
    rw [← hw0]
    have := Mn.new (w.alloc (Obj.cells (mA a n c t) 24)) a' n' c' t
    rw [World.size_alloc] at this
    exact this
  have HB : Hid (Below w.heap.size w w0) := hide (by rw [← hw0]; exact ((Below.refl _ w).alloc (Nat.le_refl _) _).alloc (by simp) _)
  have x0 := M0.seeds
  have x1 := M0.turn
  have y0 := M1.seeds
  have y1 := M1.turn
  have HSI := hide ((sameInts_any a a' n c n' c' S S w0 (hR.mono HB.out) (hR'.mono HB.out)).mono (fun e w' h => (⟨h.1.trans (ret_bool (by simp)), h.2⟩ : e = .returned (.bool true) ∧ ∃ q, w' = w0.drewN q)))
  clear M0 M1 hR hR'
  have hbb : (t == t) = true := by simp
  go_enter Try.func15, Try.ntmps15
  go_wp2_with fail
  refine HSI.out.mono ?_
  rintro e w1 ⟨rfl, q, hq⟩
  subst w1
  have HB1 := hide (HB.out.trans (drewN_below _ w0 q))
  go_wp2
  go_ret
  exact ⟨rfl, HB1.out⟩

end Go.Proofs.Ytmdnoiebodaikaa
