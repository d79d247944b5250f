/-
  Auctions, as the program goes through them: what holds behind each call that may be. Mathematics alone.
-/
import Derived.Test.YtiihnlpoagnkhaaBase
namespace Go.Proofs.Ytiihnlpoagnkhaa

structure AS where
  bid : Nat
  bidder : Nat
  dbl : Nat
  pas : Nat

namespace AS
def over (s : AS) : Bool := if s.bid = 0 then s.pas == 4 else s.pas == 3
def allow (s : AS) (c : Int) (pl : Nat) : Bool :=
  if c = 0 then true else if c = 1 then (s.bid != 0 && s.dbl == 0 && !(pl % 2 == s.bidder % 2)) else if c = 2 then (s.dbl == 1 && pl % 2 == s.bidder % 2) else decide ((s.bid : Int) < c)
def flt (s : AS) (c : Int) (pl : Nat) : Int := if c < 0 ∨ 37 < c then 3 else if s.over = true then 9 else if s.allow c pl = true then 0 else 8
def take (s : AS) (c pl : Nat) : AS := if c = 0 then ⟨s.bid, s.bidder, s.dbl, s.pas + 1⟩ else if 3 ≤ c then ⟨c, pl, 0, 0⟩ else ⟨s.bid, s.bidder, s.dbl + 1, 0⟩
end AS

def auRun : List Int → Nat → AS → AS × Int
  | [], _, s => (s, 0)
  | c :: t, i, s => if s.flt c (i % 4) = 0 then auRun t (i + 1) (s.take c.toNat (i % 4)) else (s, s.flt c (i % 4))

/-- The reference's last bid and doubles, behind j calls. -/
def rfS (zs : List Int) : Nat → Int × Int
  | 0 => (-1, 0)
  | j + 1 =>
    let r := rfS zs j
    let r2 := if 3 ≤ zs.getD j 0 then ((j : Int), (0 : Int)) else r
    if zs.getD j 0 = 1 ∨ zs.getD j 0 = 2 then (r2.1, zs.getD j 0) else r2

structure AInv (zs : List Int) (i : Nat) (s : AS) : Prop where
  len : i ≤ zs.length
  pas : s.pas ≤ i
  rng : ∀ j, j < i → 0 ≤ zs.getD j 0 ∧ zs.getD j 0 ≤ 37
  tail : ∀ j, i - s.pas ≤ j → j < i → zs.getD j 0 = 0
  non : s.pas < i → zs.getD (i - s.pas - 1) 0 ≠ 0
  dbl : s.dbl ≤ 2
  rf2 : (rfS zs i).2 = (s.dbl : Int)
  pas4 : s.pas ≤ 4
  none : s.bid = 0 → s.pas = i ∧ s.dbl = 0 ∧ (rfS zs i).1 = -1
  some : s.bid ≠ 0 → s.pas ≤ 3 ∧ 3 ≤ s.bid ∧ s.bid ≤ 37 ∧ ∃ p, p < i - s.pas ∧ zs.getD p 0 = (s.bid : Int) ∧ s.bidder = p % 4 ∧ (rfS zs i).1 = (p : Int) ∧ (∀ j, j < p → zs.getD j 0 < (s.bid : Int)) ∧ (∀ j, p < j → j < i → zs.getD j 0 < 3) ∧
    (s.dbl = 0 → p = i - s.pas - 1) ∧ (s.dbl = 1 → zs.getD (i - s.pas - 1) 0 = 1 ∧ (i - s.pas - 1) % 2 ≠ p % 2) ∧ (s.dbl = 2 → zs.getD (i - s.pas - 1) 0 = 2)

theorem AInv.start (zs : List Int) : AInv zs 0 ⟨0, 0, 0, 0⟩ :=
  ⟨Nat.zero_le _, Nat.le_refl _, fun j h => by omega, fun j _ h => by omega, fun h => by simp at h, by simp, rfl, by simp, fun _ => ⟨rfl, rfl, rfl⟩, fun h => absurd rfl h⟩

theorem AInv.step {zs : List Int} {i : Nat} {s : AS} (h : AInv zs i s) (hi : i < zs.length) (hf : s.flt (zs.getD i 0) (i % 4) = 0) :
    AInv zs (i + 1) (s.take (zs.getD i 0).toNat (i % 4)) := by
  obtain ⟨c, hc⟩ : ∃ c, zs.getD i 0 = c := ⟨_, rfl⟩
  rw [hc] at hf ⊢
  unfold AS.flt at hf
  by_cases hr : c < 0 ∨ 37 < c
  · rw [if_pos hr] at hf; omega
  rw [if_neg hr] at hf
  by_cases ho : s.over = true
  · rw [if_pos ho] at hf; omega
  rw [if_neg ho] at hf
  by_cases ha : s.allow c (i % 4) = true
  rotate_left
  · rw [if_neg ha] at hf; omega
  clear hf
  have hov : ¬ (s.bid = 0 ∧ s.pas = 4) ∧ ¬ (s.bid ≠ 0 ∧ s.pas = 3) := by
    unfold AS.over at ho
    by_cases hb : s.bid = 0
    · rw [if_pos hb] at ho; simp at ho; omega
    · rw [if_neg hb] at ho; simp at ho; omega
  have hrng : ∀ j, j < i + 1 → 0 ≤ zs.getD j 0 ∧ zs.getD j 0 ≤ 37 := by
    intro j hj
    by_cases e : j = i
    · subst e; rw [hc]; omega
    · exact h.rng j (by omega)
  obtain ⟨b, d, hrf⟩ : ∃ b d, rfS zs i = (b, d) := ⟨_, _, rfl⟩
  have hd := h.rf2
  rw [hrf] at hd
  simp only at hd
  have hrs : rfS zs (i + 1) = (let r2 := if 3 ≤ c then ((i : Int), (0 : Int)) else (b, d); if c = 1 ∨ c = 2 then (r2.1, c) else r2) := by
    simp only [rfS, hrf, hc]
  have hp := h.pas
  have hp4 := h.pas4
  have hd2 := h.dbl
  unfold AS.take
  by_cases c0 : c = 0
  · -- a pass
    subst c0
    rw [if_pos (by rfl)]
    have hrs' : rfS zs (i + 1) = (b, d) := by rw [hrs]; simp
    have hbase : AInv zs (i + 1) ⟨s.bid, s.bidder, s.dbl, s.pas + 1⟩ := by
      refine ⟨by omega, by simp only; omega, hrng, ?_, ?_, hd2, by rw [hrs']; exact hd, ?_, ?_, ?_⟩
      · intro j h1 h2
        simp only at h1
        by_cases e : j = i
        · subst e; exact hc
        · exact h.tail j (by omega) (by omega)
      · intro h1
        simp only at h1 ⊢
        rw [show i + 1 - (s.pas + 1) - 1 = i - s.pas - 1 by omega]
        exact h.non (by omega)
      · simp only
        by_cases hb : s.bid = 0
        · omega
        · have := (h.some hb).1; omega
      · intro hb
        have := h.none hb
        rw [hrf] at this
        rw [hrs']
        simp only at this ⊢
        omega
      · intro hb
        obtain ⟨q1, q2, q3, p, p1, p2, p3, p4, p5, p6, p7, p8, p9⟩ := h.some hb
        simp only at hb ⊢
        rw [hrf] at p4
        rw [hrs', show i + 1 - (s.pas + 1) = i - s.pas by omega]
        refine ⟨by omega, q2, q3, p, p1, p2, p3, p4, p5, ?_, p7, p8, p9⟩
        intro j h1 h2
        by_cases e : j = i
        · subst e; rw [hc]; omega
        · exact p6 j h1 (by omega)
    exact hbase
  · have hcn : c.toNat ≠ 0 := by omega
    rw [if_neg hcn]
    by_cases c3 : 3 ≤ c
    · rw [if_pos (by omega)]
      have hrs' : rfS zs (i + 1) = ((i : Int), 0) := by
        rw [hrs]
        simp only [c3, if_true]
        rw [if_neg (by omega)]
      refine ⟨by omega, by simp, hrng, ?_, ?_, by simp, by rw [hrs']; rfl, by simp, ?_, ?_⟩
      · intro j h1 h2; simp only at h1; omega
      · intro _; simp only [Nat.sub_zero, Nat.add_sub_cancel]; rw [hc]; omega
      · intro hb; simp only at hb; omega
      · intro hb
        simp only
        have hlt : (s.bid : Int) < c := by
          unfold AS.allow at ha
          rw [if_neg c0, if_neg (by omega), if_neg (by omega)] at ha
          simpa using ha
        refine ⟨by omega, by omega, by omega, i, by omega, ?_, rfl, by rw [hrs'], ?_, ?_, fun _ => by omega, fun h0 => by omega, fun h0 => by omega⟩
        · rw [hc]; omega
        · intro j hj
          rw [show ((c.toNat : Nat) : Int) = c by omega]
          by_cases hb0 : s.bid = 0
          · have := (h.none hb0).1
            rw [h.tail j (by omega) hj]; omega
          · obtain ⟨q1, q2, q3, p, p1, p2, p3, p4, p5, p6, p7, p8, p9⟩ := h.some hb0
            by_cases e1 : j < p
            · have := p5 j e1; omega
            · by_cases e2 : j = p
              · subst e2; rw [p2]; omega
              · have := p6 j (by omega) hj; omega
        · intro j h1 h2; omega
    · -- a double, or a redouble
      rw [if_neg (by omega)]
      have c12 : c = 1 ∨ c = 2 := by omega
      have hrs' : rfS zs (i + 1) = (b, c) := by
        rw [hrs]
        simp only [c3, if_false, c12, if_true]
      have key : s.bid ≠ 0 ∧ (c : Int) = (s.dbl : Int) + 1 ∧ (c = 1 → i % 2 ≠ s.bidder % 2) := by
        unfold AS.allow at ha
        rw [if_neg c0] at ha
        rcases c12 with rfl | rfl
        · rw [if_pos rfl] at ha
          simp at ha
          refine ⟨ha.1.1, by omega, fun _ => by omega⟩
        · rw [if_neg (by omega), if_pos rfl] at ha
          simp at ha
          refine ⟨fun hb => ?_, by omega, fun h0 => by omega⟩
          have := (h.none hb).2.1
          omega
      obtain ⟨k1, k2, k3⟩ := key
      obtain ⟨q1, q2, q3, p, p1, p2, p3, p4, p5, p6, p7, p8, p9⟩ := h.some k1
      rw [hrf] at p4
      simp only at p4
      refine ⟨by omega, by simp, hrng, ?_, ?_, by simp only; omega, by rw [hrs']; simp only; omega, by simp, ?_, ?_⟩
      · intro j h1 h2; simp only at h1; omega
      · intro _; simp only [Nat.sub_zero, Nat.add_sub_cancel]; rw [hc]; omega
      · intro hb; exact absurd hb k1
      · intro hb
        simp only [Nat.sub_zero, Nat.add_sub_cancel]
        refine ⟨by omega, q2, q3, p, by omega, p2, p3, by rw [hrs']; exact p4, p5, ?_, fun h0 => by omega, fun h1 => ⟨by rw [hc]; omega, ?_⟩, fun h2 => by rw [hc]; omega⟩
        · intro j h1 h2
          by_cases e : j = i
          · subst e; rw [hc]; omega
          · exact p6 j h1 (by omega)
        · have := k3 (by omega)
          omega

theorem auRun_drop (zs : List Int) (k : Nat) (hk : k < zs.length) (s : AS) : auRun (zs.drop k) k s =
    if s.flt (zs.getD k 0) (k % 4) = 0 then auRun (zs.drop (k + 1)) (k + 1) (s.take (zs.getD k 0).toNat (k % 4)) else (s, s.flt (zs.getD k 0) (k % 4)) := by
  rw [List.drop_eq_getElem_cons hk, auRun]
  simp [List.getD, hk]

/-- What the reference asks of an end. -/
theorem AInv.over_iff {zs : List Int} {i : Nat} {s : AS} (h : AInv zs i s) : s.over = decide (4 ≤ i ∧ ∀ j, j < i → i - 3 ≤ j → zs.getD j 0 = 0) := by
  symm
  have hp := h.pas
  unfold AS.over
  by_cases hb : s.bid = 0
  · have hn := h.none hb
    rw [if_pos hb]
    have h4 := h.pas4
    by_cases h4' : s.pas = 4
    · rw [h4', decide_eq_true (by exact ⟨by omega, fun j hj _ => h.tail j (by omega) hj⟩)]; rfl
    · rw [decide_eq_false (by omega)]
      simp; exact h4'
  · rw [if_neg hb]
    obtain ⟨q1, q2, q3, p, p1, _⟩ := h.some hb
    by_cases h3 : s.pas = 3
    · rw [h3, decide_eq_true ⟨by omega, fun j hj h1 => h.tail j (by omega) hj⟩]; rfl
    · have hnn := h.non (by omega)
      rw [decide_eq_false (by rintro ⟨_, hh⟩; exact hnn (hh _ (by omega) (by omega)))]
      symm; simp; exact h3

/-- What the reference asks of a call. -/
def mayR (zs : List Int) (i m : Nat) (c : Int) : Bool :=
  if c = 0 then true else if c = 1 then decide (0 < m ∧ (i - (m - 1)) % 2 = 1 ∧ 3 ≤ zs.getD (m - 1) 0) else if c = 2 then decide (0 < m ∧ (i - (m - 1)) % 2 = 1 ∧ zs.getD (m - 1) 0 = 1) else decide (∀ j, j < i → zs.getD j 0 < c)

theorem AInv.may {zs : List Int} {i : Nat} {s : AS} (h : AInv zs i s) (c : Int) (hc : 0 ≤ c) : s.allow c (i % 4) = mayR zs i (i - s.pas) c := by
  have hp := h.pas
  have hd2 := h.dbl
  unfold AS.allow mayR
  by_cases c0 : c = 0
  · rw [if_pos c0, if_pos c0]
  rw [if_neg c0, if_neg c0]
  by_cases c1 : c = 1
  · rw [if_pos c1, if_pos c1]
    by_cases hb : s.bid = 0
    · have := (h.none hb).1
      rw [decide_eq_false (by omega)]
      simp [hb]
    · obtain ⟨q1, q2, q3, p, p1, p2, p3, p4, p5, p6, p7, p8, p9⟩ := h.some hb
      by_cases d0 : s.dbl = 0
      · have hp7 := p7 d0
        rw [← hp7, p2]
        by_cases hh : i % 2 = s.bidder % 2
        · rw [decide_eq_false (by omega)]
          simp only [bne, d0, beq_self_eq_true, Bool.and_true, Bool.and_eq_false_imp, Bool.not_eq_eq_eq_not, Bool.not_false]
          intro _
          simp only [beq_iff_eq]; omega
        · rw [decide_eq_true (by omega)]
          simp [hb, d0]
          omega
      · have : zs.getD (i - s.pas - 1) 0 < 3 := by
          rcases (by omega : s.dbl = 1 ∨ s.dbl = 2) with e | e
          · rw [(p8 e).1]; omega
          · rw [p9 e]; omega
        rw [decide_eq_false (by omega)]
        simp [d0]
  · rw [if_neg c1, if_neg c1]
    by_cases c2 : c = 2
    · rw [if_pos c2, if_pos c2]
      by_cases hb : s.bid = 0
      · have := (h.none hb)
        rw [decide_eq_false (by omega)]
        simp [this.2.1]
      · obtain ⟨q1, q2, q3, p, p1, p2, p3, p4, p5, p6, p7, p8, p9⟩ := h.some hb
        rcases (by omega : s.dbl = 0 ∨ s.dbl = 1 ∨ s.dbl = 2) with e | e | e
        · have hp7 := p7 e
          rw [← hp7, p2, decide_eq_false (by omega)]
          simp [e]
        · obtain ⟨z1, z2⟩ := p8 e
          rw [z1]
          by_cases hh : i % 2 = s.bidder % 2
          · rw [decide_eq_true (by omega)]
            simp only [e, beq_self_eq_true, Bool.true_and, beq_iff_eq]; omega
          · rw [decide_eq_false (by omega)]
            simp only [e, beq_self_eq_true, Bool.true_and, beq_eq_false_iff_ne, ne_eq]; omega
        · rw [p9 e, decide_eq_false (by omega)]
          simp [e]
    · rw [if_neg c2, if_neg c2]
      by_cases hb : s.bid = 0
      · have := (h.none hb).1
        rw [hb, decide_eq_true (by omega), decide_eq_true (fun j hj => by rw [h.tail j (by omega) hj]; omega)]
      · obtain ⟨q1, q2, q3, p, p1, p2, p3, p4, p5, p6, p7, p8, p9⟩ := h.some hb
        congr 1
        apply propext
        constructor
        · intro hlt j hj
          by_cases e1 : j < p
          · have := p5 j e1; omega
          · by_cases e2 : j = p
            · subst e2; rw [p2]; omega
            · have := p6 j (by omega) hj; omega
        · intro hh
          have := hh p (by omega)
          rw [p2] at this
          exact this

/-- A call that bids the contract's strain, of the contract's side. -/
def isOf (zs : List Int) (bid bidder i : Nat) : Prop := 3 ≤ zs.getD i 0 ∧ (zs.getD i 0 - 3) % 5 = ((bid : Int) - 3) % 5 ∧ i % 2 = bidder % 2
structure IsFirst (zs : List Int) (bid bidder i : Nat) : Prop where
  lt : i < zs.length
  is : isOf zs bid bidder i
  no : ∀ j, j < i → ¬ isOf zs bid bidder j

theorem IsFirst.unique {zs : List Int} {b c i j : Nat} (h : IsFirst zs b c i) (g : IsFirst zs b c j) : i = j := by
  rcases Nat.lt_trichotomy i j with e | e | e
  · exact absurd h.is (g.no i e)
  · exact e
  · exact absurd g.is (h.no j e)

/-- What an auction answers. -/
structure AucOut (zs : List Int) (l st d k e : Int) : Prop where
  bad : (auRun zs 0 ⟨0, 0, 0, 0⟩).2 ≠ 0 → l = 0 ∧ st = 0 ∧ d = 0 ∧ k = 0 ∧ e = (auRun zs 0 ⟨0, 0, 0, 0⟩).2
  more : (auRun zs 0 ⟨0, 0, 0, 0⟩).2 = 0 → (auRun zs 0 ⟨0, 0, 0, 0⟩).1.over = false → l = 0 ∧ st = 0 ∧ d = 0 ∧ k = 0 ∧ e = 13
  none : (auRun zs 0 ⟨0, 0, 0, 0⟩).2 = 0 → (auRun zs 0 ⟨0, 0, 0, 0⟩).1.over = true → (auRun zs 0 ⟨0, 0, 0, 0⟩).1.bid = 0 → l = 0 ∧ st = 0 ∧ d = 0 ∧ k = 0 ∧ e = 10
  ok : (auRun zs 0 ⟨0, 0, 0, 0⟩).2 = 0 → (auRun zs 0 ⟨0, 0, 0, 0⟩).1.over = true → (auRun zs 0 ⟨0, 0, 0, 0⟩).1.bid ≠ 0 →
    l = ((auRun zs 0 ⟨0, 0, 0, 0⟩).1.bid - 3 : Int) / 5 + 1 ∧ st = ((auRun zs 0 ⟨0, 0, 0, 0⟩).1.bid - 3 : Int) % 5 ∧ d = (auRun zs 0 ⟨0, 0, 0, 0⟩).1.dbl ∧ e = 0 ∧ ∃ i, IsFirst zs (auRun zs 0 ⟨0, 0, 0, 0⟩).1.bid (auRun zs 0 ⟨0, 0, 0, 0⟩).1.bidder i ∧ k = (i % 4 : Nat)

theorem AucOut.unique {zs : List Int} {l st d k e l' st' d' k' e' : Int} (h : AucOut zs l st d k e) (g : AucOut zs l' st' d' k' e') : l = l' ∧ st = st' ∧ d = d' ∧ k = k' ∧ e = e' := by
  by_cases h2 : (auRun zs 0 ⟨0, 0, 0, 0⟩).2 = 0
  · cases ho : (auRun zs 0 ⟨0, 0, 0, 0⟩).1.over with
    | false =>
      have a := h.more h2 ho
      have b := g.more h2 ho
      omega
    | true =>
      by_cases hb : (auRun zs 0 ⟨0, 0, 0, 0⟩).1.bid = 0
      · have a := h.none h2 ho hb
        have b := g.none h2 ho hb
        omega
      · obtain ⟨a1, a2, a3, a4, i, ai, a5⟩ := h.ok h2 ho hb
        obtain ⟨b1, b2, b3, b4, j, bj, b5⟩ := g.ok h2 ho hb
        have := ai.unique bj
        subst this
        omega
  · have a := h.bad h2
    have b := g.bad h2
    omega

end Go.Proofs.Ytiihnlpoagnkhaa
