/-
  Steps, jumps and ways by the numbers of places; they are those by bits. No conditions beyond those that each theorem bears.
-/
import Derived.Test.YtnbaangnpoblfaaDoorZb
namespace Go.Proofs.YtnbaangnpoblfaaDoor

def e2 (p : Nat) : Nat := 2 ^ bitn p
/-- The neighbour in a direction; 0: none. -/
def nb (d p : Nat) : Nat := if p = 0 then 0 else if stp d (e2 p) = 0 then 0 else numb (Nat.log2 (stp d (e2 p)))

theorem nb_zero (d : Nat) : nb d 0 = 0 := by unfold nb; rw [if_pos rfl]
theorem stp_zero (d : Nat) : stp d 0 = 0 := by unfold stp; simp
theorem stp_tab : ∀ d, d < 4 → ∀ p, p < 33 → p ≠ 0 → nb d p ≤ 32 ∧ stp d (e2 p) = if nb d p = 0 then 0 else e2 (nb d p) := by decide +kernel

/-- A place's set, none for 0. -/
def bv (p : Nat) : Nat := if p = 0 then 0 else e2 p
theorem stp_bv {d p : Nat} (hd : d < 4) (hp : p ≤ 32) : stp d (bv p) = bv (nb d p) ∧ nb d p ≤ 32 := by
  by_cases h : p = 0
  · subst h; rw [nb_zero]; exact ⟨stp_zero d, by omega⟩
  · have h1 := stp_tab d hd p (by omega) h
    refine ⟨?_, h1.1⟩
    show stp d (if p = 0 then 0 else e2 p) = _
    rw [if_neg h]; exact h1.2

theorem e2_ne (p : Nat) : e2 p ≠ 0 := Nat.ne_of_gt (Nat.two_pow_pos _)
theorem bv_pos {p : Nat} (h : p ≠ 0) : bv p = e2 p := by unfold bv; rw [if_neg h]
theorem bv_zero : bv 0 = 0 := rfl
theorem bv_eq_zero {p : Nat} : bv p = 0 ↔ p = 0 := by
  constructor
  · intro h
    by_cases e : p = 0
    · exact e
    · rw [bv_pos e] at h; exact absurd h (e2_ne p)
  · rintro rfl; rfl
theorem tb_e2 (p i : Nat) : (e2 p).testBit i = decide (bitn p = i) := by unfold e2; rw [Nat.testBit_two_pow]
theorem e2_and (p M : Nat) : e2 p &&& M = if M.testBit (bitn p) = true then e2 p else 0 := by
  apply Nat.eq_of_testBit_eq
  intro i
  rw [Nat.testBit_and, tb_e2]
  by_cases e : bitn p = i
  · subst e
    by_cases h : M.testBit (bitn p) = true
    · rw [if_pos h, tb_e2]; simp [h]
    · rw [if_neg h]; simp [h]
  · have : decide (bitn p = i) = false := by simpa using e
    rw [this]
    by_cases h : M.testBit (bitn p) = true
    · rw [if_pos h, tb_e2, this]; rfl
    · rw [if_neg h]; simp
theorem e2_anot (p M : Nat) : anot (e2 p) M = if M.testBit (bitn p) = true then 0 else e2 p := by
  apply Nat.eq_of_testBit_eq
  intro i
  rw [tb_anot, tb_e2]
  by_cases e : bitn p = i
  · subst e
    by_cases h : M.testBit (bitn p) = true
    · rw [if_pos h]; simp [h]
    · rw [if_neg h, tb_e2]; simp [h]
  · have : decide (bitn p = i) = false := by simpa using e
    rw [this]
    by_cases h : M.testBit (bitn p) = true
    · rw [if_pos h]; simp
    · rw [if_neg h, tb_e2, this]; rfl
theorem bv_and {p : Nat} (M : Nat) : bv p &&& M = bv (if M.testBit (bitn p) = true then p else 0) := by
  by_cases h : p = 0
  · subst h
    rw [bv_zero]
    by_cases k : M.testBit (bitn 0) = true
    · rw [if_pos k, bv_zero]; simp
    · rw [if_neg k, bv_zero]; simp
  · rw [bv_pos h, e2_and]
    by_cases k : M.testBit (bitn p) = true
    · rw [if_pos k, if_pos k, bv_pos h]
    · rw [if_neg k, if_neg k]; rfl
theorem bv_anot {p : Nat} (M : Nat) : anot (bv p) M = bv (if M.testBit (bitn p) = true then 0 else p) := by
  by_cases h : p = 0
  · subst h
    rw [bv_zero]
    have : anot 0 M = 0 := by unfold anot; simp
    rw [this]
    by_cases k : M.testBit (bitn 0) = true
    · rw [if_pos k]; rfl
    · rw [if_neg k]; rfl
  · rw [bv_pos h, e2_anot]
    by_cases k : M.testBit (bitn p) = true
    · rw [if_pos k, if_pos k]; rfl
    · rw [if_neg k, if_neg k, bv_pos h]

/-- May a piece go in a direction? -/
def fwd (x : Int) (d : Nat) : Bool := decide (x = 2 ∨ x = -2 ∨ (x = 1 ∧ d < 2) ∨ (x = -1 ∧ ¬ d < 2))

/-- What was jumped over, as a set. -/
def mkO (ov : List Nat) : Nat := ov.foldl (fun a m => a ||| e2 m) 0
theorem mkO_snoc (ov : List Nat) (m : Nat) : mkO (ov ++ [m]) = mkO ov ||| e2 m := by unfold mkO; rw [List.foldl_append]; rfl
theorem tb_mkO (ov : List Nat) (h : ∀ m ∈ ov, 1 ≤ m) {p : Nat} (hp : 1 ≤ p) : (mkO ov).testBit (bitn p) = ov.contains p := by
  revert h
  refine rev_ind (P := fun ov => (∀ m ∈ ov, 1 ≤ m) → (mkO ov).testBit (bitn p) = ov.contains p) ?_ ?_ ov
  · intro _; simp [mkO]
  · intro s m ih h
    have ih := ih (fun x hx => h x (by simp [hx]))
    have hm := h m (by simp)
    rw [mkO_snoc, Nat.testBit_or, ih, tb_e2]
    by_cases e : p = m
    · subst e; simp
    · have : ¬ bitn m = bitn p := fun k => e (bitn_inj hp hm k.symm)
      simp [this, e]
theorem mkO_zero {ov : List Nat} : mkO ov = 0 ↔ ov = [] := by
  constructor
  · refine rev_ind (P := fun ov => mkO ov = 0 → ov = []) (fun _ => rfl) ?_ ov
    intro s m _ h
    rw [mkO_snoc] at h
    have hb := congrArg (fun x => x.testBit (bitn m)) h
    rw [Nat.testBit_or, tb_e2] at hb
    simp at hb
  · rintro rfl; rfl

section
variable (Z : List Int) (t : Nat)

def hopN (p0 c : Nat) (ov : List Nat) (d : Nat) : Option (Nat × Nat) :=
  if fwd (Z.getD p0 0) d = true ∧ nb d c ≠ 0 ∧ own3 (Z.getD (nb d c) 0) = 3 - t ∧ ov.contains (nb d c) = false ∧ nb d (nb d c) ≠ 0 ∧ (Z.getD (nb d (nb d c)) 0 = 0 ∨ nb d (nb d c) = p0) then some (nb d (nb d c), nb d c) else none

def hopsN (p0 c : Nat) (ov : List Nat) : List (Nat × Nat) := [0, 1, 2, 3].filterMap (hopN Z t p0 c ov)

def jmN (p0 : Nat) : Nat → Nat → List Nat → List Nat → List (List Nat × List Nat)
  | 0, _, _, _ => []
  | f + 1, c, W, ov => (hopsN Z t p0 c ov).flatMap (fun h => jmN p0 f h.1 (W ++ [h.1]) (ov ++ [h.2])) ++ (if hopsN Z t p0 c ov = [] ∧ ov ≠ [] then [(W, ov)] else [])

def stpN (p d : Nat) : Option (List Nat × List Nat) := if fwd (Z.getD p 0) d = true ∧ nb d p ≠ 0 ∧ Z.getD (nb d p) 0 = 0 then some ([p, nb d p], []) else none
def stN (p : Nat) : List (List Nat × List Nat) := [0, 1, 2, 3].filterMap (stpN Z p)
/-- The mover's places. -/
def plc : List Nat := (List.range 33).filter fun p => decide (1 ≤ p) && isO Z t p
def jmsN : Bool := (plc Z t).any fun p => decide (hopsN Z t p p [] ≠ [])
def way1N (p : Nat) : List (List Nat × List Nat) := if jmsN Z t = true then jmN Z t p 13 p [p] [] else stN Z p
def wyN : List (List Nat × List Nat) := (plc Z t).flatMap (way1N Z t)
end

/-- As bits. -/
def msk (x : List Nat × List Nat) : Wy := (x.1.map e2, mkO x.2)

theorem bln_or_last {x j : Nat} (h : ∀ i, x.testBit i = true → i < j) : ∀ n, j < n → bln (x ||| 2 ^ j) n = bln x n ++ [j] := by
  have hj : x.testBit j = false := by
    cases e : x.testBit j with
    | false => rfl
    | true => have := h j e; omega
  have base : bln (x ||| 2 ^ j) (j + 1) = bln x (j + 1) ++ [j] := by
    have hb : (x ||| 2 ^ j).testBit j = true := by rw [Nat.testBit_or, Nat.testBit_two_pow]; simp
    rw [bln_yes hb, bln_no hj]
    congr 1
    unfold bln
    apply List.filter_congr
    intro i hi
    rw [Nat.testBit_or, Nat.testBit_two_pow]
    have : i < j := List.mem_range.1 hi
    simp; omega
  intro n
  induction n with
  | zero => intro h; omega
  | succ n ih =>
    intro hn
    by_cases e : n = j
    · subst e; exact base
    · have hx : x.testBit n = false := by
        cases e2 : x.testBit n with
        | false => rfl
        | true => have := h n e2; omega
      have hb : (x ||| 2 ^ j).testBit n = false := by rw [Nat.testBit_or, Nat.testBit_two_pow, hx]; simp; omega
      rw [bln_no hb, bln_no hx]
      exact ih (by omega)

theorem bln_mkT (P : Nat → Bool) : ∀ k, k ≤ 32 → bln (mkT P k) 64 = ((List.range (k + 1)).filter fun p => decide (1 ≤ p) && P p).map bitn
  | 0, _ => by simp [mkT, bln]
  | k + 1, hk => by
    have ih := bln_mkT P k (by omega)
    rw [List.range_succ, List.filter_append, List.map_append, ← ih, mkT_succ]
    by_cases h : P (k + 1) = true
    · rw [if_pos h, bln_or_last (fun i hi => by
        obtain ⟨p, h1, h2, _, rfl⟩ := (tb_mkT P k i).1 hi
        exact bitn_mono (by omega) h1) 64 (by have := bitn_lt (p := k + 1) hk; omega)]
      simp [h]
    · rw [if_neg h]; simp [h]

theorem bln_own (Z : List Int) (t : Nat) : bln (sn Z t).own 64 = (plc Z t).map bitn := bln_mkT (isO Z t) 32 (Nat.le_refl _)

theorem mem_plc {Z : List Int} {t p : Nat} : p ∈ plc Z t ↔ p ≤ 32 ∧ 1 ≤ p ∧ own3 (Z.getD p 0) = t := by
  unfold plc isO
  simp only [List.mem_filter, List.mem_range, Bool.and_eq_true, decide_eq_true_eq, beq_iff_eq]
  constructor
  · rintro ⟨a, b, c⟩; exact ⟨by omega, b, c⟩
  · rintro ⟨a, b, c⟩; exact ⟨by omega, b, c⟩

section
variable {Z : List Int} {t : Nat}

theorem own_bit {p : Nat} (h1 : 1 ≤ p) (h2 : p ≤ 32) : (sn Z t).own.testBit (bitn p) = isO Z t p := tb_mk _ h1 h2
theorem oth_bit {p : Nat} (h1 : 1 ≤ p) (h2 : p ≤ 32) : (sn Z t).oth.testBit (bitn p) = isO Z (3 - t) p := tb_mk _ h1 h2
theorem kin_bit {p : Nat} (h1 : 1 ≤ p) (h2 : p ≤ 32) : (sn Z t).kin.testBit (bitn p) = isK Z p := tb_mk _ h1 h2
theorem emp_bit (ht : t = 1 ∨ t = 2) {p : Nat} (h1 : 1 ≤ p) (h2 : p ≤ 32) : (sn Z t).emp.testBit (bitn p) = decide (Z.getD p 0 = 0) := by
  unfold Bm.emp
  rw [tb_anot, Nat.testBit_or, own_bit h1 h2, oth_bit h1 h2, bitn_all p h2 h1]
  unfold isO
  generalize Z.getD p 0 = z
  rcases own3_cases z with ⟨a, b⟩ | ⟨a, b⟩ | ⟨a, b⟩
  · rw [a, show decide (z = 0) = false by simp; omega]
    rcases ht with rfl | rfl <;> rfl
  · rw [a, show decide (z = 0) = false by simp; omega]
    rcases ht with rfl | rfl <;> rfl
  · rw [a, show decide (z = 0) = true by simpa using b]
    rcases ht with rfl | rfl <;> rfl

theorem goe_bit (h : Mb Z t) {p d : Nat} (hp : p ∈ plc Z t) : (sn Z t).goe d &&& e2 p = if fwd (Z.getD p 0) d = true then e2 p else 0 := by
  obtain ⟨h2, h1, ho⟩ := mem_plc.1 hp
  have ht : t = 1 ∨ t = 2 := by have := h.tt; omega
  have hok := h.ok (p - 1) (by omega)
  rw [show p - 1 + 1 = p by omega] at hok
  unfold okP at hok
  simp only [decide_eq_true_eq] at hok
  rw [Nat.and_comm, e2_and]
  have hb : ((sn Z t).goe d).testBit (bitn p) = fwd (Z.getD p 0) d := by
    unfold Bm.goe
    have oo : isO Z t p = true := by unfold isO; rw [ho]; simp
    have hm : (sn Z t).mov = t := rfl
    rw [hm]
    by_cases e : decide (d < 2) = decide (t = 1)
    · rw [if_pos e, own_bit h1 h2, oo]
      unfold fwd own3 at *
      rcases ht with rfl | rfl
      · have hd : d < 2 := by simpa using e
        symm; rw [decide_eq_true_eq]
        split at ho
        · omega
        · split at ho <;> omega
      · have hd : ¬ d < 2 := by simpa using e
        symm; rw [decide_eq_true_eq]
        split at ho
        · omega
        · split at ho <;> omega
    · rw [if_neg e, Nat.testBit_and, own_bit h1 h2, kin_bit h1 h2, oo, Bool.true_and]
      unfold fwd isK own3 at *
      rw [decide_eq_decide]
      rcases ht with rfl | rfl
      · have hd : ¬ d < 2 := by simpa using e
        split at ho
        · omega
        · split at ho <;> omega
      · have hd : d < 2 := by
          by_cases k : d < 2
          · exact k
          · exfalso; apply e; simp [k]
        split at ho
        · omega
        · split at ho <;> omega
  rw [hb]

theorem hop_sn (h : Mb Z t) {p0 c d : Nat} {ov : List Nat} (hp : p0 ∈ plc Z t) (hc1 : 1 ≤ c) (hc2 : c ≤ 32) (hov : ∀ m ∈ ov, 1 ≤ m) (hd : d < 4) :
    hop (sn Z t) (e2 p0) (e2 c) (mkO ov) d = (hopN Z t p0 c ov d).map fun x => (e2 x.1, e2 x.2) := by
  have ht : t = 1 ∨ t = 2 := by have := h.tt; omega
  obtain ⟨p2, p1, po⟩ := mem_plc.1 hp
  have hn := stp_bv (d := d) (p := c) hd hc2
  rw [bv_pos (by omega)] at hn
  have hn2 := stp_bv (d := d) (p := nb d c) hd hn.2
  rw [hop_eq, Nat.and_comm, goe_bit h hp]
  unfold hopN
  by_cases hf : fwd (Z.getD p0 0) d = true
  · rw [if_pos hf, if_neg (e2_ne p0)]
    have hmid : mid (sn Z t) (e2 c) (mkO ov) d = bv (if nb d c ≠ 0 ∧ own3 (Z.getD (nb d c) 0) = 3 - t ∧ ov.contains (nb d c) = false then nb d c else 0) := by
      unfold mid
      rw [hn.1, bv_and]
      by_cases hm0 : nb d c = 0
      · rw [hm0]
        simp only [ite_self, ne_eq, not_true_eq_false, false_and]
        rw [bv_anot, ite_self]
      · have hm1 : 1 ≤ nb d c := by omega
        rw [oth_bit hm1 hn.2]
        by_cases ho : isO Z (3 - t) (nb d c) = true
        · rw [if_pos ho, bv_anot, tb_mkO ov hov hm1]
          have ho' : own3 (Z.getD (nb d c) 0) = 3 - t := by unfold isO at ho; simpa using ho
          by_cases hc : ov.contains (nb d c) = true
          · rw [if_pos hc, if_neg (by rw [hc]; simp)]
          · rw [if_neg hc, if_pos ⟨hm0, ho', by simpa using hc⟩]
        · rw [if_neg ho]
          have ho' : ¬ own3 (Z.getD (nb d c) 0) = 3 - t := by unfold isO at ho; simpa using ho
          rw [if_neg (fun k => ho' k.2.1), bv_anot, ite_self]
    by_cases hm : nb d c ≠ 0 ∧ own3 (Z.getD (nb d c) 0) = 3 - t ∧ ov.contains (nb d c) = false
    · rw [if_pos hm] at hmid
      rw [hmid]
      have htg : tgt (sn Z t) (e2 p0) (bv (nb d c)) d = bv (if nb d (nb d c) ≠ 0 ∧ (Z.getD (nb d (nb d c)) 0 = 0 ∨ nb d (nb d c) = p0) then nb d (nb d c) else 0) := by
        unfold tgt
        rw [hn2.1, bv_and]
        by_cases hq0 : nb d (nb d c) = 0
        · rw [hq0]
          simp only [ite_self, ne_eq, not_true_eq_false, false_and]
        · have hq1 : 1 ≤ nb d (nb d c) := by omega
          congr 1
          have hb : ((sn Z t).emp ||| e2 p0).testBit (bitn (nb d (nb d c))) = decide (Z.getD (nb d (nb d c)) 0 = 0 ∨ nb d (nb d c) = p0) := by
            rw [Nat.testBit_or, emp_bit ht hq1 hn2.2, tb_e2, Bool.decide_or]
            congr 1
            rw [decide_eq_decide]
            exact ⟨fun k => (bitn_inj p1 hq1 k).symm, fun k => by rw [k]⟩
          rw [hb]
          by_cases hz : Z.getD (nb d (nb d c)) 0 = 0 ∨ nb d (nb d c) = p0
          · rw [if_pos (by simpa using hz), if_pos ⟨hq0, hz⟩]
          · rw [if_neg (by simpa using hz), if_neg (fun k => hz k.2)]
      rw [htg]
      by_cases hq : nb d (nb d c) ≠ 0 ∧ (Z.getD (nb d (nb d c)) 0 = 0 ∨ nb d (nb d c) = p0)
      · rw [if_pos hq, if_neg (by rw [bv_eq_zero]; exact hq.1), if_pos ⟨hf, hm.1, hm.2.1, hm.2.2, hq.1, hq.2⟩, bv_pos hq.1, bv_pos hm.1]
        rfl
      · rw [if_neg hq, if_pos bv_zero, if_neg (fun k => hq ⟨k.2.2.2.2.1, k.2.2.2.2.2⟩)]
        rfl
    · rw [if_neg hm] at hmid
      rw [hmid, bv_zero]
      have : tgt (sn Z t) (e2 p0) 0 d = 0 := by unfold tgt; rw [stp_zero]; simp
      rw [this, if_pos rfl, if_neg (fun k => hm ⟨k.2.1, k.2.2.1, k.2.2.2.1⟩)]
      rfl
  · rw [if_neg hf, if_pos rfl, if_neg (fun k => hf k.1)]
    rfl

theorem hops_sn (h : Mb Z t) {p0 c : Nat} {ov : List Nat} (hp : p0 ∈ plc Z t) (hc1 : 1 ≤ c) (hc2 : c ≤ 32) (hov : ∀ m ∈ ov, 1 ≤ m) :
    hops (sn Z t) (e2 p0) (e2 c) (mkO ov) = (hopsN Z t p0 c ov).map fun x => (e2 x.1, e2 x.2) := by
  unfold hops hopsN
  simp only [List.filterMap_cons, List.filterMap_nil, hop_sn h hp hc1 hc2 hov (show 0 < 4 by omega), hop_sn h hp hc1 hc2 hov (show 1 < 4 by omega), hop_sn h hp hc1 hc2 hov (show 2 < 4 by omega), hop_sn h hp hc1 hc2 hov (show 3 < 4 by omega)]
  cases hopN Z t p0 c ov 0 <;> cases hopN Z t p0 c ov 1 <;> cases hopN Z t p0 c ov 2 <;> cases hopN Z t p0 c ov 3 <;> rfl

theorem hopN_some {p0 c d q m : Nat} {ov : List Nat} (h : hopN Z t p0 c ov d = some (q, m)) : fwd (Z.getD p0 0) d = true ∧ m = nb d c ∧ q = nb d (nb d c) ∧ m ≠ 0 ∧ own3 (Z.getD m 0) = 3 - t ∧ ov.contains m = false ∧ q ≠ 0 ∧ (Z.getD q 0 = 0 ∨ q = p0) := by
  unfold hopN at h
  split at h
  · rename_i k
    simp only [Option.some.injEq, Prod.mk.injEq] at h
    obtain ⟨rfl, rfl⟩ := h
    exact ⟨k.1, rfl, rfl, k.2.1, k.2.2.1, k.2.2.2.1, k.2.2.2.2.1, k.2.2.2.2.2⟩
  · cases h
theorem mem_hopsN {p0 c : Nat} {ov : List Nat} {x : Nat × Nat} : x ∈ hopsN Z t p0 c ov ↔ ∃ d, d < 4 ∧ hopN Z t p0 c ov d = some x := by
  unfold hopsN
  rw [List.mem_filterMap]
  constructor
  · rintro ⟨d, hd, e⟩; exact ⟨d, by simp at hd; omega, e⟩
  · rintro ⟨d, hd, e⟩; exact ⟨d, by simp; omega, e⟩
theorem nb_le {d p : Nat} (hd : d < 4) (hp : p ≤ 32) : nb d p ≤ 32 := (stp_bv hd hp).2

theorem jmp_sn (h : Mb Z t) {p0 : Nat} (hp : p0 ∈ plc Z t) : ∀ (f c : Nat) (W ov : List Nat), 1 ≤ c → c ≤ 32 → (∀ m ∈ ov, 1 ≤ m) → W.headD 0 = p0 → W.getLastD 0 = c → W ≠ [] →
    jmp (sn Z t) f (W.map e2) (mkO ov) = (jmN Z t p0 f c W ov).map msk
  | 0, c, W, ov, _, _, _, _, _, _ => rfl
  | f + 1, c, W, ov, hc1, hc2, hov, hh, hl, hW => by
    have e1 : (W.map e2).headD 0 = e2 p0 := by
      cases W with
      | nil => exact absurd rfl hW
      | cons x W => rw [← hh]; rfl
    have e3 : (W.map e2).getLastD 0 = e2 c := by
      rw [← hl, List.getLastD_eq_getLast?, List.getLastD_eq_getLast?, List.getLast?_map]
      rw [List.getLast?_eq_some_getLast hW]; rfl
    rw [jmp, jmN, e1, e3, hops_sn h hp hc1 hc2 hov, List.map_append, List.flatMap_map, List.map_flatMap]
    congr 1
    · have : ∀ (H : List (Nat × Nat)), (∀ x ∈ H, x ∈ hopsN Z t p0 c ov) → H.flatMap (fun a => jmp (sn Z t) f (W.map e2 ++ [e2 a.1]) (mkO ov ||| e2 a.2)) = H.flatMap fun a => (jmN Z t p0 f a.1 (W ++ [a.1]) (ov ++ [a.2])).map msk := by
        intro H
        induction H with
        | nil => intro _; rfl
        | cons x H ihH =>
          intro hx
          rw [List.flatMap_cons, List.flatMap_cons, ihH (fun y hy => hx y (by simp [hy]))]
          congr 1
          obtain ⟨d, hd, e⟩ := mem_hopsN.1 (hx x (by simp))
          obtain ⟨_, m1, m2, m3, _, _, m6, _⟩ := hopN_some (q := x.1) (m := x.2) e
          have hm32 : x.2 ≤ 32 := by rw [m1]; exact nb_le hd hc2
          have hq32 : x.1 ≤ 32 := by rw [m2]; exact nb_le hd (nb_le hd hc2)
          have := jmp_sn h hp f x.1 (W ++ [x.1]) (ov ++ [x.2]) (by omega) hq32 (fun m hm => by
            rcases List.mem_append.1 hm with k | k
            · exact hov m k
            · rw [List.mem_singleton.1 k]; omega) (by
            cases W with
            | nil => exact absurd rfl hW
            | cons y W => exact hh) (by rw [List.getLastD_concat]) (by simp)
          rw [List.map_append, mkO_snoc] at this
          exact this
      exact this _ (fun _ hx => hx)
    · have k1 : ((hopsN Z t p0 c ov).map fun x => (e2 x.1, e2 x.2)) = [] ↔ hopsN Z t p0 c ov = [] := List.map_eq_nil_iff
      have k2 : mkO ov ≠ 0 ↔ ov ≠ [] := not_congr mkO_zero
      by_cases hcnd : hopsN Z t p0 c ov = [] ∧ ov ≠ []
      · rw [if_pos hcnd, if_pos ⟨k1.2 hcnd.1, k2.2 hcnd.2⟩]; rfl
      · rw [if_neg hcnd, if_neg (fun k => hcnd ⟨k1.1 k.1, k2.1 k.2⟩)]; rfl

theorem stD_sn (h : Mb Z t) {p d : Nat} (hp : p ∈ plc Z t) (hd : d < 4) : stD (sn Z t) (e2 p) d = bv (if fwd (Z.getD p 0) d = true ∧ nb d p ≠ 0 ∧ Z.getD (nb d p) 0 = 0 then nb d p else 0) := by
  have ht : t = 1 ∨ t = 2 := by have := h.tt; omega
  obtain ⟨p2, p1, po⟩ := mem_plc.1 hp
  have hn := stp_bv (d := d) (p := p) hd p2
  rw [bv_pos (by omega)] at hn
  unfold stD
  rw [Nat.and_comm (e2 p), goe_bit h hp]
  by_cases hf : fwd (Z.getD p 0) d = true
  · rw [if_pos hf, hn.1, bv_and]
    by_cases h0 : nb d p = 0
    · rw [h0]; simp
    · have h1 : 1 ≤ nb d p := by omega
      congr 1
      rw [emp_bit ht h1 hn.2]
      by_cases hz : Z.getD (nb d p) 0 = 0
      · rw [if_pos (by simpa using hz), if_pos ⟨hf, h0, hz⟩]
      · rw [if_neg (by simpa using hz), if_neg (fun k => hz k.2.2)]
  · rw [if_neg hf, stp_zero, if_neg (fun k => hf k.1)]
    simp [bv_zero]

theorem stF_sn (h : Mb Z t) {p : Nat} (hp : p ∈ plc Z t) : stF (sn Z t) (e2 p) = (stN Z p).map msk := by
  have key : ∀ d, d < 4 → (if stD (sn Z t) (e2 p) d = 0 then none else some ([e2 p, stD (sn Z t) (e2 p) d], 0)) = (stpN Z p d).map msk := by
    intro d hd
    rw [stD_sn h hp hd]
    unfold stpN
    by_cases k : fwd (Z.getD p 0) d = true ∧ nb d p ≠ 0 ∧ Z.getD (nb d p) 0 = 0
    · rw [if_pos k, if_pos k, if_neg (by rw [bv_eq_zero]; exact k.2.1), bv_pos k.2.1]; rfl
    · rw [if_neg k, if_neg k, if_pos bv_zero]; rfl
  unfold stF stN
  simp only [List.filterMap_cons, List.filterMap_nil, key 0 (by omega), key 1 (by omega), key 2 (by omega), key 3 (by omega)]
  cases stpN Z p 0 <;> cases stpN Z p 1 <;> cases stpN Z p 2 <;> cases stpN Z p 3 <;> rfl

theorem stp_mono {d M N : Nat} (h : Sub M N) : Sub (stp d M) (stp d N) := fun i hi => by
  rw [tb_stp, Bool.and_eq_true] at hi ⊢
  refine ⟨hi.1, ?_⟩
  have hi := hi.2
  by_cases h0 : d = 0
  · rw [if_pos h0] at hi ⊢; exact h _ hi
  · rw [if_neg h0] at hi ⊢
    by_cases h1 : d = 1
    · rw [if_pos h1] at hi ⊢; exact h _ hi
    · rw [if_neg h1] at hi ⊢
      by_cases h2 : d = 2
      · rw [if_pos h2, Bool.and_eq_true] at hi ⊢; exact ⟨hi.1, h _ hi.2⟩
      · rw [if_neg h2, Bool.and_eq_true] at hi ⊢; exact ⟨hi.1, h _ hi.2⟩
theorem stp_src {d M i : Nat} (hi : (stp d M).testBit i = true) : ∃ j, M.testBit j = true ∧ (stp d (2 ^ j)).testBit i = true := by
  rw [tb_stp, Bool.and_eq_true] at hi
  by_cases h0 : d = 0
  · rw [if_pos h0] at hi
    exact ⟨_, hi.2, by rw [tb_stp, if_pos h0, hi.1, Nat.testBit_two_pow]; simp⟩
  · rw [if_neg h0] at hi
    by_cases h1 : d = 1
    · rw [if_pos h1] at hi
      exact ⟨_, hi.2, by rw [tb_stp, if_neg h0, if_pos h1, hi.1, Nat.testBit_two_pow]; simp⟩
    · rw [if_neg h1] at hi
      by_cases h2 : d = 2
      · rw [if_pos h2, Bool.and_eq_true] at hi
        exact ⟨_, hi.2.2, by rw [tb_stp, if_neg h0, if_neg h1, if_pos h2, hi.1, hi.2.1, Nat.testBit_two_pow]; simp⟩
      · rw [if_neg h2, Bool.and_eq_true] at hi
        exact ⟨_, hi.2.2, by rw [tb_stp, if_neg h0, if_neg h1, if_neg h2, hi.1, hi.2.1, Nat.testBit_two_pow]; simp⟩
theorem stp_mem {d M q : Nat} (hd : d < 4) (hM : Sub M ALL) (q1 : 1 ≤ q) : (stp d M).testBit (bitn q) = true ↔ ∃ p, 1 ≤ p ∧ p ≤ 32 ∧ M.testBit (bitn p) = true ∧ nb d p = q := by
  constructor
  · intro h
    obtain ⟨j, hj, hs⟩ := stp_src h
    have hA := hM j hj
    have j36 : j < 36 := by
      rcases Nat.lt_or_ge j 36 with h | h
      · exact h
      · rw [Nat.testBit_lt_two_pow (Nat.lt_of_lt_of_le ALL_lt (Nat.pow_le_pow_right (by decide) h))] at hA; cases hA
    obtain ⟨p, p2, p1, rfl⟩ := all_bitn j j36 hA
    refine ⟨p, p1, p2, hj, ?_⟩
    have := (stp_bv (d := d) (p := p) hd p2).1
    rw [bv_pos (by omega)] at this
    rw [show (2 : Nat) ^ bitn p = e2 p from rfl, this] at hs
    by_cases h0 : nb d p = 0
    · rw [h0, bv_zero, Nat.zero_testBit] at hs; cases hs
    · rw [bv_pos h0, tb_e2, decide_eq_true_eq] at hs
      exact bitn_inj (by omega) q1 hs
  · rintro ⟨p, p1, p2, hb, rfl⟩
    have := (stp_bv (d := d) (p := p) hd p2).1
    rw [bv_pos (by omega)] at this
    refine stp_mono (M := e2 p) (fun i hi => ?_) _ ?_
    · rw [tb_e2, decide_eq_true_eq] at hi; rw [← hi]; exact hb
    · rw [this, bv_pos (by omega), tb_e2]; simp
theorem no_back : ∀ d, d < 4 → ∀ p, p < 33 → p ≠ 0 → nb d (nb d p) ≠ p := by decide +kernel

theorem jms_sn (h : Mb Z t) : (sn Z t).jms = jmsN Z t := by
  have ht : t = 1 ∨ t = 2 := by have := h.tt; omega
  rw [Bool.eq_iff_iff]
  unfold Bm.jms jmsN
  rw [List.any_eq_true, List.any_eq_true]
  have key : ∀ d, d < 4 → ((sn Z t).jmD d ≠ 0 ↔ ∃ p ∈ plc Z t, hopN Z t p p [] d ≠ none) := by
    intro d hd
    unfold Bm.jmD
    have hb := sn_ok h
    have gS : Sub ((sn Z t).goe d) ALL := by
      unfold Bm.goe
      split
      · exact hb.own
      · exact Sub.and_left hb.own
    constructor
    · intro hne
      obtain ⟨i, hi⟩ := Nat.exists_testBit_of_ne_zero hne
      rw [Nat.testBit_and, Bool.and_eq_true] at hi
      have hA := emp_sub (sn Z t) i hi.2
      have i36 : i < 36 := by
        rcases Nat.lt_or_ge i 36 with h | h
        · exact h
        · rw [Nat.testBit_lt_two_pow (Nat.lt_of_lt_of_le ALL_lt (Nat.pow_le_pow_right (by decide) h))] at hA; cases hA
      obtain ⟨q, q2, q1, rfl⟩ := all_bitn i i36 hA
      obtain ⟨m, m1, m2, hm, rfl⟩ := (stp_mem hd (Sub.and_right hb.oth) q1).1 hi.1
      rw [Nat.testBit_and, Bool.and_eq_true] at hm
      obtain ⟨p, p1, p2, hp, rfl⟩ := (stp_mem hd gS m1).1 hm.1
      have hown : (sn Z t).own.testBit (bitn p) = true := by
        unfold Bm.goe at hp
        split at hp
        · exact hp
        · rw [Nat.testBit_and, Bool.and_eq_true] at hp; exact hp.1
      have hpl : p ∈ plc Z t := by
        rw [own_bit p1 p2] at hown
        unfold isO at hown
        exact mem_plc.2 ⟨p2, p1, by simpa using hown⟩
      refine ⟨p, hpl, ?_⟩
      have hf : fwd (Z.getD p 0) d = true := by
        have hg := goe_bit (d := d) h hpl
        by_cases k : fwd (Z.getD p 0) d = true
        · exact k
        · rw [if_neg k, Nat.and_comm, e2_and, if_pos hp] at hg
          exact absurd hg (e2_ne p)
      have ho := hm.2
      rw [oth_bit m1 m2] at ho
      have he := hi.2
      rw [emp_bit ht q1 q2, decide_eq_true_eq] at he
      unfold hopN
      rw [if_pos ⟨hf, by omega, by unfold isO at ho; simpa using ho, by simp, by omega, Or.inl he⟩]
      simp
    · rintro ⟨p, hp, hne⟩
      obtain ⟨⟨q, m⟩, hx⟩ := Option.ne_none_iff_exists'.1 hne
      obtain ⟨k1, k2, k3, k4, k5, _, k7, k8⟩ := hopN_some hx
      obtain ⟨p2, p1, po⟩ := mem_plc.1 hp
      have m32 : m ≤ 32 := by rw [k2]; exact nb_le hd p2
      have q32 : q ≤ 32 := by rw [k3]; exact nb_le hd (nb_le hd p2)
      have hg : ((sn Z t).goe d).testBit (bitn p) = true := by
        have hg := goe_bit (d := d) h hp
        rw [if_pos k1, Nat.and_comm, e2_and] at hg
        by_cases k : ((sn Z t).goe d).testBit (bitn p) = true
        · exact k
        · rw [if_neg k] at hg; exact absurd hg.symm (e2_ne p)
      have hz : Z.getD q 0 = 0 := by
        rcases k8 with k | k
        · exact k
        · exact absurd (k3 ▸ k) (no_back d hd p (by omega) (by omega))
      have hs1 : (stp d ((sn Z t).goe d)).testBit (bitn m) = true := (stp_mem hd gS (by omega)).2 ⟨p, p1, p2, hg, k2.symm⟩
      have ho : (sn Z t).oth.testBit (bitn m) = true := by rw [oth_bit (by omega) m32]; unfold isO; simpa using k5
      have hs2 : (stp d (stp d ((sn Z t).goe d) &&& (sn Z t).oth)).testBit (bitn q) = true := (stp_mem hd (Sub.and_right hb.oth) (by omega)).2 ⟨m, by omega, m32, by rw [Nat.testBit_and, hs1, ho]; rfl, by rw [k3, k2]⟩
      have he : (sn Z t).emp.testBit (bitn q) = true := by rw [emp_bit ht (by omega) q32]; simpa using hz
      intro e0
      have hb0 := congrArg (fun x => x.testBit (bitn q)) e0
      rw [Nat.testBit_and, hs2, he, Nat.zero_testBit] at hb0
      cases hb0
  constructor
  · rintro ⟨d, hd, e⟩
    simp only [decide_eq_true_eq] at e
    obtain ⟨p, hp, hne⟩ := (key d (by simp at hd; omega)).1 e
    refine ⟨p, hp, ?_⟩
    simp only [decide_eq_true_eq]
    intro hnil
    obtain ⟨x, hx⟩ := Option.ne_none_iff_exists'.1 hne
    have := mem_hopsN.2 ⟨d, by simp at hd; omega, hx⟩
    rw [hnil] at this; cases this
  · rintro ⟨p, hp, e⟩
    simp only [decide_eq_true_eq] at e
    obtain ⟨x, hx⟩ := List.exists_mem_of_ne_nil _ e
    obtain ⟨d, hd, e2⟩ := mem_hopsN.1 hx
    refine ⟨d, by simp; omega, ?_⟩
    simp only [decide_eq_true_eq]
    exact (key d hd).2 ⟨p, hp, by rw [e2]; simp⟩

theorem ways_sn (h : Mb Z t) : ways (sn Z t) = (wyN Z t).map msk := by
  unfold ways wyN
  rw [bln_own, List.flatMap_map, List.map_flatMap]
  have : ∀ (H : List Nat), (∀ x ∈ H, x ∈ plc Z t) → H.flatMap (fun a => way1 (sn Z t) (2 ^ bitn a)) = H.flatMap fun a => (way1N Z t a).map msk := by
    intro H
    induction H with
    | nil => intro _; rfl
    | cons x H ihH =>
      intro hx
      rw [List.flatMap_cons, List.flatMap_cons, ihH (fun y hy => hx y (by simp [hy]))]
      congr 1
      have hp := hx x (by simp)
      obtain ⟨p2, p1, _⟩ := mem_plc.1 hp
      unfold way1 way1N
      rw [jms_sn h]
      by_cases hj : jmsN Z t = true
      · rw [if_pos hj, if_pos hj]
        exact jmp_sn h hp 13 x [x] [] p1 p2 (fun m hm => by cases hm) rfl rfl (by simp)
      · rw [if_neg hj, if_neg hj]
        exact stF_sn h hp
  exact this _ (fun _ hx => hx)
end

end Go.Proofs.YtnbaangnpoblfaaDoor
