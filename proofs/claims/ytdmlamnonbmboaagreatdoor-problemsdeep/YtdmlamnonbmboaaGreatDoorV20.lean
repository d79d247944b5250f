/-
  Chess: what a move makes of the attacks on the mover's king. No conditions beyond those that each theorem bears.
  Chess: the places behind a move, as the program makes them and as the document does. No conditions beyond those that each theorem bears.
-/
import Derived.Test.YtdmlamnonbmboaaGreatDoorV03
import Derived.Test.YtdmlamnonbmboaaGreatDoorV16
namespace Go.Proofs.YtdmlamnonbmboaaGreatDoor
set_option maxRecDepth 20000

theorem fm_congr {α β : Type} {f g : α → List β} : ∀ {L : List α}, (∀ a ∈ L, f a = g a) → L.flatMap f = L.flatMap g
  | [], _ => rfl
  | a :: r, h => by rw [List.flatMap_cons, List.flatMap_cons, h a (by simp), fm_congr (fun b hb => h b (by simp [hb]))]

theorem vis_congr {Y Z : List Int} (b : Bool) : ∀ L : List Nat, (∀ q ∈ L, (zg Y q = 0 ↔ zg Z q = 0)) → vis Y b L = vis Z b L
  | [], _ => rfl
  | q :: r, h => by
    have h1 := h q (by simp)
    have h2 := vis_congr b r (fun a ha => h a (by simp [ha]))
    simp only [vis]
    rw [h2]
    by_cases e : zg Y q = 0
    · have e2 := h1.1 e
      simp [e, e2]
    · have e2 : ¬ zg Z q = 0 := fun k => e (h1.2 k)
      simp [e, e2]

theorem rch_congr {Y Z : List Int} {x : Int} (hx : KX x) {t : Nat} (ht : t < 64) (h : ∀ q, q < 64 → (zg Y q = 0 ↔ zg Z q = 0)) : rch Y x t = rch Z x t := by
  unfold rch
  refine fm_congr (fun i hi => ?_)
  exact vis_congr _ _ (fun q hq => h q (R_lt ht (ixs_lt hx i hi) q hq))

/-- Only what is empty, and the other side's pieces, count. -/
theorem atk_congr {Y Z : List Int} {K b : Nat} (hK : K < 64) (h0 : ∀ q, q < 64 → (zg Y q = 0 ↔ zg Z q = 0)) (h1 : ∀ q k, q < 64 → k < 6 → (zg Y q = pc b (k + 1) ↔ zg Z q = pc b (k + 1))) : atk Y K b = atk Z K b := by
  unfold atk
  refine fm_congr (fun k hk => ?_)
  have hk6 := List.mem_range.1 hk
  rw [rch_congr (KX_neg (pc_kx hk6)) hK h0]
  refine List.filter_congr (fun q hq => ?_)
  have hq64 := rch_lt (KX_neg (pc_kx hk6)) hK q hq
  have := h1 q k hq64 hk6
  by_cases e : zg Y q = pc b (k + 1)
  · rw [beq_iff_eq.2 e, beq_iff_eq.2 (this.1 e)]
  · rw [beq_eq_false_iff_ne.2 e, beq_eq_false_iff_ne.2 (fun h => e (this.2 h))]

theorem first_at {f : Nat} : ∀ {L : List Nat}, f ∈ L → ∃ l m, L = l ++ f :: m ∧ f ∉ l
  | [], h => by cases h
  | b :: r, h => by
    by_cases e : b = f
    · exact ⟨[], r, by rw [e]; rfl, by simp⟩
    · have hr : f ∈ r := by
        rcases List.mem_cons.1 h with k | k
        · exact absurd k.symm e
        · exact k
      obtain ⟨l, m, h1, h2⟩ := first_at hr
      exact ⟨b :: l, m, by rw [h1]; rfl, by simp [h2]; exact fun k => e k.symm⟩

theorem ixs_far {x : Int} (h : far x = true) (hx : KX x) : ∀ i ∈ ixs x, i < 8 := by
  rcases hx with rfl | rfl | rfl | rfl | rfl | rfl | rfl | rfl | rfl | rfl | rfl | rfl <;> first | (exact absurd h (by decide)) | decide

/-- A PIECE THAT STANDS IN NO LINE WITH THE KING CAN LEAVE ITS PLACE. -/
theorem pin {Z Z' : List Int} {K b f q : Nat} (hK : K < 64) (h0 : atk Z K b = []) (hf : f ∉ rch Z 5 K) (hq0 : zg Z' q ≠ 0) (hqb : ∀ k, zg Z' q ≠ pc b (k + 1)) (hff : zg Z' f = 0) (hp : ∀ p, p < 64 → p ≠ q → p ≠ f → zg Z' p = zg Z p) : atk Z' K b = [] := by
  rw [List.eq_nil_iff_forall_not_mem]
  intro a ha
  simp only [atk, List.mem_flatMap, List.mem_range, List.mem_filter, beq_iff_eq] at ha
  obtain ⟨k, hk, hm, hz⟩ := ha
  have hkx := pc_kx (b := b) hk
  have ha64 := rch_lt (KX_neg hkx) hK a hm
  have haq : a ≠ q := fun e => hqb k (e ▸ hz)
  have haf : a ≠ f := fun e => by
    rw [e, hff] at hz
    unfold pc at hz
    split at hz <;> omega
  have hza : zg Z a = pc b (k + 1) := by rw [← hp a ha64 haq haf]; exact hz
  have hno : a ∉ rch Z (-(pc b (k + 1))) K := fun hr => by
    have : a ∈ atk Z K b := by
      simp only [atk, List.mem_flatMap, List.mem_range, List.mem_filter, beq_iff_eq]
      exact ⟨k, hk, hr, hza⟩
    rw [h0] at this
    cases this
  simp only [rch, List.mem_flatMap] at hm
  obtain ⟨i, hi, hv⟩ := hm
  have hi16 := ixs_lt (KX_neg hkx) i hi
  cases hfar : far (-(pc b (k + 1))) with
  | false =>
    rw [hfar, vis_near] at hv
    exact hno (by simp only [rch, List.mem_flatMap]; exact ⟨i, hi, by rw [hfar, vis_near]; exact hv⟩)
  | true =>
    rw [hfar] at hv
    have hi8 := ixs_far hfar (KX_neg hkx) i hi
    obtain ⟨j, hj, he⟩ := (vis_iff Z' _ a).1 hv
    by_cases hin : f ∈ (R K i).take j
    · obtain ⟨l, m, hl, hfl⟩ := first_at hin
      apply hf
      simp only [rch, List.mem_flatMap]
      refine ⟨i, ?_, ?_⟩
      · show i ∈ ixs 5
        have : ixs 5 = List.range 8 := by decide
        rw [this]; exact List.mem_range.2 hi8
      · show f ∈ vis Z true (R K i)
        have hR : R K i = l ++ f :: (m ++ (R K i).drop j) := by
          conv => lhs; rw [← List.take_append_drop j (R K i), hl]
          simp
        refine (vis_iff Z _ f).2 ⟨l.length, ?_, ?_⟩
        · rw [hR]; simp
        · intro c hc
          have hcl : c ∈ l := by rw [hR] at hc; simpa using hc
          have hct : c ∈ (R K i).take j := by rw [hl]; simp [hcl]
          have hcz := he c hct
          have hcq : c ≠ q := fun e => hq0 (e ▸ hcz)
          have hcf : c ≠ f := fun e => hfl (e ▸ hcl)
          rw [← hp c (R_lt hK hi16 c (List.mem_of_mem_take hct)) hcq hcf]
          exact hcz
    · apply hno
      simp only [rch, List.mem_flatMap]
      refine ⟨i, hi, ?_⟩
      rw [hfar]
      refine (vis_iff Z _ a).2 ⟨j, hj, fun c hc => ?_⟩
      have hcz := he c hc
      have hcq : c ≠ q := fun e => hq0 (e ▸ hcz)
      have hcf : c ≠ f := fun e => hin (e ▸ hc)
      rw [← hp c (R_lt hK hi16 c (List.mem_of_mem_take hc)) hcq hcf]
      exact hcz

/-! ## Where a piece may go -/
def ownB (Z : List Int) (s q : Nat) : Bool := decide (0 < pci s (zg Z q))
def fw (s : Nat) : Int := pci s 8
def edge (p : Int) : Bool := decide (p < 8) || decide (56 ≤ p)
def entB (Z : List Int) (t : Nat) (e : Int) (f q : Nat) : Bool := if (zg Z f).natAbs = 1 then (decide ((q : Int) = e) || ownB Z (1 - t) q) else !ownB Z t q
def on1 (t f : Nat) : Nat := ((f : Int) + fw t).toNat
def on2 (t f : Nat) : Nat := ((f : Int) + fw t + fw t).toNat
def ahB (Z : List Int) (t f q : Nat) : Bool := zg Z (on1 t f) == 0 && (q == on1 t f || (edge ((f : Int) - fw t) && zg Z (on2 t f) == 0 && q == on2 t f))
def cTo (i : Nat) : Nat := [6, 2, 62, 58].getD i 0
def cOv (i : Nat) : Nat := [5, 3, 61, 59].getD i 0
def cBt (i : Nat) : List Nat := [[5, 6], [3, 2, 1], [61, 62], [59, 58, 57]].getD i []
def csB (Z : List Int) (t : Nat) (k : Int) (i : Nat) : Bool := sdP i == t && bitB k i && (cBt i).all (fun p => zg Z p == 0) && decide (atk Z (kgP i) (1 - t) = []) && decide (atk Z (cOv i) (1 - t) = []) && decide (atk Z (cTo i) (1 - t) = [])
def casB (Z : List Int) (t : Nat) (k : Int) (q : Nat) : Bool := (List.range 4).any fun i => csB Z t k i && q == cTo i
def tgB (Z : List Int) (t : Nat) (k e : Int) (f q : Nat) : Bool :=
  (decide (q ∈ rch Z (zg Z f) f) && entB Z t e f q) || ((zg Z f).natAbs == 1 && ahB Z t f q) || ((zg Z f).natAbs == 6 && casB Z t k q)

/-- As the document says it. -/
def goR (Z : List Int) (t : Nat) (e : Int) (f q : Nat) : Bool :=
  if pci t (zg Z f) ≤ 0 ∨ 0 < pci t (zg Z q) then false
  else if pci t (zg Z f) ≠ 1 then atR Z f q
  else if atR Z f q = true then zg Z q != 0 || decide ((q : Int) = e)
  else if (q : Int) = (f : Int) + fw t then zg Z q == 0
  else f / 8 == (if t = 0 then 1 else 6) && decide ((q : Int) = (f : Int) + fw t + fw t) && zg Z q == 0 && zg Z (on1 t f) == 0
def okR (Z : List Int) (t : Nat) (k e : Int) (f q : Nat) : Bool := goR Z t e f q || ((zg Z f).natAbs == 6 && casB Z t k q)

theorem Pas.emp {Z : List Int} {t e : Int} (h : Pas Z t e) {q : Nat} (hq : (q : Int) = e) : zg Z q = 0 := by
  unfold Pas at h
  have : e.toNat = q := by omega
  rw [this] at h
  rcases h with h | h | h
  · omega
  · exact h.2.2.2.1
  · exact h.2.2.2.1

theorem not_atR_file {Z : List Int} {f q : Nat} (hp : (zg Z f).natAbs = 1) (hd : dX f q = 0) : atR Z f q = false := by
  unfold atR
  rw [hp]
  simp [hd]

theorem tg_ok {Z : List Int} {t : Nat} {k e : Int} (ht : t ≤ 1) (hS : Std Z) (hP : Pas Z t e) {f q : Nat} (hf : f < 64) (hq : q < 64) (hown : ownB Z t f = true) : tgB Z t k e f q = okR Z t k e f q := by
  have hb := hS.2.1 f hf
  have hbq := hS.2.1 q hq
  have hpos : 0 < pci t (zg Z f) := of_decide_eq_true hown
  have hx : KX (zg Z f) := KX_of hb.1 hb.2.1 (fun e0 => by rw [e0] at hpos; unfold pci at hpos; split at hpos <;> omega)
  have hr := rch_iff Z hf hq hx
  unfold tgB okR
  congr 1
  unfold goR
  by_cases hpw : (zg Z f).natAbs = 1
  · have hp1 : pci t (zg Z f) = 1 := by unfold pci at hpos ⊢; split at hpos <;> simp_all <;> omega
    have hin := hb.2.2 hpw
    rw [hp1]
    have hent : entB Z t e f q = (decide ((q : Int) = e) || ownB Z (1 - t) q) := by unfold entB; rw [if_pos hpw]
    rw [hent]
    have hoth : ownB Z (1 - t) q = decide (pci t (zg Z q) < 0) := by
      unfold ownB pci
      have : t = 0 ∨ t = 1 := by omega
      rcases this with rfl | rfl <;> simp
    rw [hoth]
    have hb1 : ((zg Z f).natAbs == 1) = true := by rw [hpw]; rfl
    rw [hb1, Bool.true_and]
    have hz0 : zg Z q = 0 ↔ pci t (zg Z q) = 0 := by unfold pci; split <;> omega
    have hfile1 : (q : Int) = (f : Int) + fw t → dX f q = 0 := fun h => by
      unfold dX; unfold fw pci at h
      split at h <;> omega
    have hfile2 : (q : Int) = (f : Int) + fw t + fw t → dX f q = 0 := fun h => by
      unfold dX; unfold fw pci at h
      split at h <;> omega
    have ho1 : (on1 t f : Int) = (f : Int) + fw t := by
      unfold on1 fw pci
      split <;> omega
    by_cases hqo : 0 < pci t (zg Z q)
    · rw [if_pos (Or.inr hqo)]
      have hqz : zg Z q ≠ 0 := fun h => by rw [hz0.1 h] at hqo; omega
      have e1 : decide ((q : Int) = e) = false := decide_eq_false (fun h => hqz (hP.emp h))
      have e2 : decide (pci t (zg Z q) < 0) = false := decide_eq_false (by omega)
      have e3 : ahB Z t f q = false := by
        unfold ahB
        by_cases h1 : q = on1 t f
        · have : (zg Z (on1 t f) == 0) = false := by rw [← h1]; exact beq_eq_false_iff_ne.2 hqz
          rw [this]; rfl
        · have h1' : (q == on1 t f) = false := beq_eq_false_iff_ne.2 h1
          rw [h1', Bool.false_or]
          by_cases h2 : q = on2 t f
          · have : (zg Z (on2 t f) == 0) = false := by rw [← h2]; exact beq_eq_false_iff_ne.2 hqz
            rw [this]; simp
          · have h2' : (q == on2 t f) = false := beq_eq_false_iff_ne.2 h2
            rw [h2']; simp
      rw [e1, e2, e3]; simp
    · have hno : ¬ ((1 : Int) ≤ 0 ∨ 0 < pci t (zg Z q)) := by omega
      rw [if_neg hno, if_neg (by simp)]
      have hoth2 : decide (pci t (zg Z q) < 0) = (zg Z q != 0) := by
        by_cases h : zg Z q = 0
        · rw [h]; have := hz0.1 h; rw [h] at this; rw [this]; rfl
        · have : ¬ pci t (zg Z q) = 0 := fun k => h (hz0.2 k)
          rw [decide_eq_true (by omega)]
          exact (bne_iff_ne.2 h).symm
      rw [hoth2]
      by_cases ha : atR Z f q = true
      · rw [if_pos ha, decide_eq_true (hr.1 ha), Bool.true_and]
        have hd : dX f q ≠ 0 := fun h => by rw [not_atR_file hpw h] at ha; cases ha
        have e3 : ahB Z t f q = false := by
          unfold ahB
          have h1 : (q == on1 t f) = false := beq_eq_false_iff_ne.2 (fun h => hd (hfile1 (by rw [h]; exact ho1)))
          rw [h1, Bool.false_or]
          by_cases h2 : q = on2 t f
          · by_cases he : edge ((f : Int) - fw t) = true
            · exfalso
              apply hd
              apply hfile2
              rw [h2]
              unfold on2
              unfold edge fw pci at he
              unfold fw pci
              split at he <;> simp at he <;> simp_all <;> omega
            · rw [Bool.not_eq_true] at he
              rw [he]; simp
          · have h2' : (q == on2 t f) = false := beq_eq_false_iff_ne.2 h2
            rw [h2']; simp
        rw [e3, Bool.or_false, Bool.or_comm]
      · have hnr : decide (q ∈ rch Z (zg Z f) f) = false := decide_eq_false (fun h => ha (hr.2 h))
        rw [if_neg ha, hnr, Bool.false_and, Bool.false_or]
        unfold ahB
        by_cases h1 : q = on1 t f
        · have h1i : (q : Int) = (f : Int) + fw t := by rw [h1]; exact ho1
          rw [if_pos h1i, ← h1]
          simp
        · have h1i : ¬ (q : Int) = (f : Int) + fw t := fun h => h1 (by unfold on1; omega)
          rw [if_neg h1i]
          have h1' : (q == on1 t f) = false := beq_eq_false_iff_ne.2 h1
          rw [h1', Bool.false_or]
          have hed : edge ((f : Int) - fw t) = (f / 8 == (if t = 0 then 1 else 6)) := by
            unfold edge fw pci
            have : t = 0 ∨ t = 1 := by omega
            rw [Bool.eq_iff_iff]
            rcases this with rfl | rfl <;> simp <;> omega
          rw [hed]
          cases hfe : (f / 8 == (if t = 0 then 1 else 6)) with
          | false => simp
          | true =>
            have hfe' := beq_iff_eq.1 hfe
            have ho2 : (on2 t f : Int) = (f : Int) + fw t + fw t := by
              unfold on2 fw pci
              have : t = 0 ∨ t = 1 := by omega
              rcases this with rfl | rfl <;> simp at hfe' ⊢ <;> omega
            by_cases h2 : q = on2 t f
            · have h2i : (q : Int) = (f : Int) + fw t + fw t := by rw [h2]; exact ho2
              rw [decide_eq_true h2i, ← h2]
              simp [Bool.and_comm]
            · have h2i : ¬ (q : Int) = (f : Int) + fw t + fw t := fun h => h2 (by omega)
              rw [decide_eq_false h2i, beq_eq_false_iff_ne.2 h2]
              simp
  · have hp1 : pci t (zg Z f) ≠ 1 := by unfold pci; split <;> omega
    have hb1 : ((zg Z f).natAbs == 1) = false := beq_eq_false_iff_ne.2 hpw
    rw [hb1, Bool.false_and, Bool.or_false]
    have hent : entB Z t e f q = !ownB Z t q := by unfold entB; rw [if_neg hpw]
    rw [hent, if_pos hp1]
    unfold ownB
    by_cases hqo : 0 < pci t (zg Z q)
    · rw [if_pos (Or.inr hqo), decide_eq_true hqo]; simp
    · rw [if_neg (by omega), decide_eq_false hqo]
      simp only [Bool.not_false, Bool.and_true]
      rw [Bool.eq_iff_iff, decide_eq_true_iff]
      exact hr.symm

end Go.Proofs.YtdmlamnonbmboaaGreatDoor

namespace Go.Proofs.YtdmlamnonbmboaaGreatDoor
set_option maxRecDepth 20000

theorem zg_set {Z : List Int} {i : Nat} {v : Int} (hi : i < Z.length) (p : Nat) : zg (Z.set i v) p = if p = i then v else zg Z p := by
  unfold zg
  by_cases h : p = i
  · subst h; simp [List.getD, hi]
  · rw [if_neg h]; simp [List.getD, Ne.symm h]
theorem zg_ext {Y Z : List Int} (hl : Y.length = Z.length) (h : ∀ p, p < Z.length → zg Y p = zg Z p) : Y = Z := by
  refine List.ext_getElem hl (fun p h1 h2 => ?_)
  have := h p h2
  unfold zg at this
  simpa [List.getD, h1, h2] using this

/-- Which castling a move is. -/
def cI (Z : List Int) (f q : Nat) : Option Nat := if (zg Z f).natAbs = 6 then (List.range 4).find? fun i => f == kgP i && q == cTo i else none
/-- A pawn taken in passing. -/
def tkB (Z : List Int) (e : Int) (f q : Nat) : Bool := decide ((q : Int) = e) && (zg Z f).natAbs == 1
def bk (t q : Nat) : Nat := ((q : Int) - fw t).toNat

def mv1 (Z : List Int) (f q : Nat) : List Int := (Z.set f 0).set q (zg Z f)
def mv2 (Z : List Int) (t f q n : Nat) : List Int := if n = 0 then mv1 Z f q else (mv1 Z f q).set q (pci t n)
def mv3 (Z : List Int) (t : Nat) (e : Int) (f q n : Nat) : List Int := if tkB Z e f q = true then (mv2 Z t f q n).set (bk t q) 0 else mv2 Z t f q n
/-- The places behind a move. -/
def mvZ (Z : List Int) (t : Nat) (e : Int) (f q n : Nat) : List Int :=
  match cI Z f q with
  | none => mv3 Z t e f q n
  | some i => ((mv3 Z t e f q n).set (rkP i) 0).set (cOv i) (zg Z (rkP i))

theorem mv1_len (Z : List Int) (f q : Nat) : (mv1 Z f q).length = Z.length := by simp [mv1]
theorem mv2_len (Z : List Int) (t f q n : Nat) : (mv2 Z t f q n).length = Z.length := by unfold mv2; split <;> simp [mv1]
theorem mv3_len (Z : List Int) (t : Nat) (e : Int) (f q n : Nat) : (mv3 Z t e f q n).length = Z.length := by unfold mv3; split <;> simp [mv2_len]
theorem mvZ_len (Z : List Int) (t : Nat) (e : Int) (f q n : Nat) : (mvZ Z t e f q n).length = Z.length := by unfold mvZ; split <;> simp [mv3_len]

theorem cI_some {Z : List Int} {f q i : Nat} (h : cI Z f q = some i) : (zg Z f).natAbs = 6 ∧ i < 4 ∧ f = kgP i ∧ q = cTo i := by
  unfold cI at h
  split at h
  · rename_i h6
    have h1 := List.find?_some h
    have h2 := List.mem_of_find?_eq_some h
    simp only [Bool.and_eq_true, beq_iff_eq] at h1
    exact ⟨h6, List.mem_range.1 h2, h1.1, h1.2⟩
  · cases h
theorem cI_at {Z : List Int} {i : Nat} (hi : i < 4) (h : (zg Z (kgP i)).natAbs = 6) : cI Z (kgP i) (cTo i) = some i := by
  unfold cI
  rw [if_pos h]
  match i, hi with
  | 0, _ => rfl
  | 1, _ => rfl
  | 2, _ => rfl
  | 3, _ => rfl

/-- The pieces that a move may become: none, but a pawn's on the last rank. -/
def inB (Z : List Int) (f q : Nat) : List Nat := if (zg Z f).natAbs = 1 ∧ edge (q : Int) = true then [2, 3, 4, 5] else [0]

theorem inB_lt {Z : List Int} {f q n : Nat} (h : n ∈ inB Z f q) : n < 6 ∧ (n ≠ 0 → 2 ≤ n ∧ (zg Z f).natAbs = 1 ∧ edge (q : Int) = true) ∧ (n = 0 → ¬ ((zg Z f).natAbs = 1 ∧ edge (q : Int) = true)) := by
  unfold inB at h
  split at h
  · rename_i hh
    simp at h
    exact ⟨by omega, fun _ => ⟨by omega, hh⟩, fun h0 => by omega⟩
  · rename_i hh
    simp at h
    exact ⟨by omega, fun h0 => absurd h h0, fun _ => hh⟩

/-- What stands on the place that is gone to. -/
def vl (Z : List Int) (t f n : Nat) : Int := if n = 0 then zg Z f else pci t n

/-- A plain move. -/
theorem mv2_at {Z : List Int} (hl : Z.length = 64) {t f q n : Nat} (hf : f < 64) (hq : q < 64) (p : Nat) : zg (mv2 Z t f q n) p = if p = q then vl Z t f n else if p = f then 0 else zg Z p := by
  unfold mv2 vl
  split
  · unfold mv1
    rw [zg_set (by simp; omega), zg_set (by omega)]
  · unfold mv1
    rw [zg_set (by simp; omega), zg_set (by simp; omega), zg_set (by omega)]
    split <;> rfl

theorem mv3_at {Z : List Int} (hl : Z.length = 64) {t : Nat} {e : Int} {f q n : Nat} (hf : f < 64) (hq : q < 64) (p : Nat) (hb : tkB Z e f q = true → bk t q < 64) :
    zg (mv3 Z t e f q n) p = if tkB Z e f q = true ∧ p = bk t q then 0 else if p = q then vl Z t f n else if p = f then 0 else zg Z p := by
  unfold mv3
  by_cases h : tkB Z e f q = true
  · rw [if_pos h, zg_set (by rw [mv2_len]; have := hb h; omega), mv2_at hl hf hq]
    by_cases hp : p = bk t q
    · rw [if_pos hp, if_pos ⟨h, hp⟩]
    · rw [if_neg hp, if_neg (c := tkB Z e f q = true ∧ p = bk t q) (fun k => hp k.2)]
  · rw [if_neg h, mv2_at hl hf hq, if_neg (c := tkB Z e f q = true ∧ p = bk t q) (fun k => h k.1)]

theorem cas_pl {i : Nat} (hi : i < 4) : rkP i < 64 ∧ cOv i < 64 ∧ kgP i < 64 ∧ cTo i < 64 ∧ rkP i ≠ cOv i ∧ rkP i ≠ kgP i ∧ rkP i ≠ cTo i ∧ cOv i ≠ kgP i ∧ cOv i ≠ cTo i ∧ kgP i ≠ cTo i ∧ (kgP i + cTo i) / 2 = cOv i ∧ rkP i = (if cTo i < kgP i then kgP i / 8 * 8 else kgP i / 8 * 8 + 7) ∧ ((cTo i : Int) - (kgP i : Int)).natAbs = 2 := by
  match i, hi with
  | 0, _ => decide
  | 1, _ => decide
  | 2, _ => decide
  | 3, _ => decide

/-! ## As the document makes them -/
def crn (f q : Nat) : Nat := if q < f then f / 8 * 8 else f / 8 * 8 + 7
def dnZ (Z : List Int) (t : Nat) (e : Int) (f q n : Nat) : List Int :=
  if (zg Z f).natAbs = 6 ∧ ((q : Int) - (f : Int)).natAbs = 2 then ((mv3 Z t e f q n).set ((f + q) / 2) (zg (mv3 Z t e f q n) (crn f q))).set (crn f q) 0 else mv3 Z t e f q n

theorem tab_N : ((List.range 64).all fun f => ((ixs 6).flatMap fun i => (R f i).take 1).all fun q => !(decide (((q : Int) - (f : Int)).natAbs = 2))) = true := by decide +kernel
theorem tab_N2 : ((List.range 64).all fun f => ((ixs (-6)).flatMap fun i => (R f i).take 1).all fun q => !(decide (((q : Int) - (f : Int)).natAbs = 2))) = true := by decide +kernel

/-- A king's step is no castling. -/
theorem step_ne {Z : List Int} {f q : Nat} (hf : f < 64) (h6 : (zg Z f).natAbs = 6) (h : q ∈ rch Z (zg Z f) f) : ((q : Int) - (f : Int)).natAbs ≠ 2 := by
  have hx : zg Z f = 6 ∨ zg Z f = -6 := by omega
  unfold rch at h
  rcases hx with e | e
  · rw [e] at h
    have hfar : far 6 = false := by decide
    rw [hfar] at h
    simp only [vis_near] at h
    have := List.all_eq_true.1 (all64 tab_N hf) q h
    simpa using this
  · rw [e] at h
    have hfar : far (-6) = false := by decide
    rw [hfar] at h
    simp only [vis_near] at h
    have := List.all_eq_true.1 (all64 tab_N2 hf) q h
    simpa using this

theorem tg_king {Z : List Int} {t : Nat} {k e : Int} {f q : Nat} (h6 : (zg Z f).natAbs = 6) (h : tgB Z t k e f q = true) : (q ∈ rch Z (zg Z f) f ∧ ownB Z t q = false) ∨ ∃ i, i < 4 ∧ csB Z t k i = true ∧ q = cTo i := by
  unfold tgB at h
  simp only [Bool.or_eq_true, Bool.and_eq_true, decide_eq_true_eq, beq_iff_eq] at h
  rcases h with (h | h) | h
  · have h2 := h.2
    unfold entB at h2
    rw [if_neg (by omega)] at h2
    exact Or.inl ⟨h.1, by simpa using h2⟩
  · omega
  · have := h.2
    unfold casB at this
    simp only [List.any_eq_true, List.mem_range, Bool.and_eq_true, beq_iff_eq] at this
    obtain ⟨i, h1, h2, h3⟩ := this
    exact Or.inr ⟨i, h1, h2, h3⟩

/-- One's own king's place. -/
def KgAt (Z : List Int) (s K : Nat) : Prop := K < 64 ∧ ∀ p, p < 64 → (zg Z p = pc s 6 ↔ p = K)

theorem cnt_one {Z : List Int} {x : Int} (h : cnt Z x 64 = 1) : ∃ K, K < 64 ∧ ∀ p, p < 64 → (zg Z p = x ↔ p = K) := by
  unfold cnt at h
  obtain ⟨K, hK⟩ := List.length_eq_one_iff.1 h
  have hm : ∀ p, p ∈ (List.range 64).filter (fun i => zg Z i == x) ↔ p = K := fun p => by rw [hK]; simp
  have h1 := (hm K).2 rfl
  simp only [List.mem_filter, List.mem_range] at h1
  refine ⟨K, h1.1, fun p hp => ?_⟩
  have := hm p
  simp only [List.mem_filter, List.mem_range, beq_iff_eq] at this
  rw [← this]
  exact ⟨fun h => ⟨hp, h⟩, fun h => h.2⟩

theorem cnt_of {Z : List Int} {x : Int} {K : Nat} (hK : K < 64) (h : ∀ p, p < 64 → (zg Z p = x ↔ p = K)) : cnt Z x 64 = 1 := by
  unfold cnt
  have e : (List.range 64).filter (fun i => zg Z i == x) = (List.range 64).filter (fun i => i == K) := by
    refine List.filter_congr (fun p hp => ?_)
    have := h p (List.mem_range.1 hp)
    by_cases e : p = K
    · rw [beq_iff_eq.2 (this.2 e), beq_iff_eq.2 e]
    · rw [beq_eq_false_iff_ne.2 (fun k => e (this.1 k)), beq_eq_false_iff_ne.2 e]
  rw [e]
  have := List.count_eq_length_filter (a := K) (l := List.range 64)
  rw [← this]
  rw [List.Nodup.count List.nodup_range]
  simp [hK]

theorem Std.kgAt {Z : List Int} (h : Std Z) (s : Nat) : ∃ K, KgAt Z s K := by
  unfold KgAt
  rw [pc6]
  by_cases hs : s = 0
  · rw [if_pos hs]; obtain ⟨K, h1, h2⟩ := cnt_one h.2.2.1; exact ⟨K, h1, h2⟩
  · rw [if_neg hs]; obtain ⟨K, h1, h2⟩ := cnt_one h.2.2.2; exact ⟨K, h1, h2⟩

theorem KgAt.fst {Z : List Int} {s K : Nat} (h : KgAt Z s K) : Fst Z (pc s 6) K :=
  ⟨h.1, (h.2 K h.1).2 rfl, fun j hj e => by have := (h.2 j (by have := h.1; omega)).1 e; omega⟩
theorem Fst.uniq {Z : List Int} {x : Int} {a b : Nat} (h1 : Fst Z x a) (h2 : Fst Z x b) : a = b := by
  rcases Nat.lt_trichotomy a b with h | h | h
  · exact absurd h1.2.1 (h2.2.2 a h)
  · exact h
  · exact absurd h2.2.1 (h1.2.2 b h)
theorem KgAt.kg {Z : List Int} {s K : Nat} (h : KgAt Z s K) : kg Z (pc s 6) = K := by
  have hf : Fst Z (pc s 6) (YtdmlamnonbmboaaGreatDoor.kg Z (pc s 6)) := by
    unfold YtdmlamnonbmboaaGreatDoor.kg
    rw [dif_pos ⟨K, h.fst⟩]
    exact Classical.choose_spec (⟨K, h.fst⟩ : ∃ k, Fst Z (pc s 6) k)
  exact hf.uniq h.fst

end Go.Proofs.YtdmlamnonbmboaaGreatDoor
