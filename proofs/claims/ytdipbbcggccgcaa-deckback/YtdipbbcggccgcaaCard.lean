/-
  What the document's own CardText and ReadCard answer: a card's text; the first card of the 52 that a text tells, or none. No conditions beyond those that each theorem bears.
-/
import Derived.Test.YtdipbbcggccgcaaBase
import Derived.BigRegion
namespace Go.Proofs.Ytdipbbcggccgcaa
open Go.RowKit

/-- The signs of the ranks and of the suits. -/
def rkB (i : Nat) : UInt8 := #[50, 51, 52, 53, 54, 55, 56, 57, 84, 74, 81, 75, 65].getD i 0
def suB (i : Nat) : UInt8 := #[99, 100, 104, 115].getD i 0

def rkS (c : Nat) : ByteArray := ⟨#[rkB (c / 4)]⟩
def suS (c : Nat) : ByteArray := ⟨#[suB (c % 4)]⟩
def txt (c : Nat) : ByteArray := rkS c ++ suS c
/-- The suits' pictures. -/
def picS (c : Nat) : ByteArray := #[(⟨#[226, 153, 163]⟩ : ByteArray), ⟨#[226, 153, 166]⟩, ⟨#[226, 153, 165]⟩, ⟨#[226, 153, 160]⟩].getD (c % 4) ⟨#[]⟩

def ranksRow : Array Value := #[.string ⟨#[50]⟩, .string ⟨#[51]⟩, .string ⟨#[52]⟩, .string ⟨#[53]⟩, .string ⟨#[54]⟩, .string ⟨#[55]⟩, .string ⟨#[56]⟩, .string ⟨#[57]⟩, .string ⟨#[84]⟩, .string ⟨#[74]⟩, .string ⟨#[81]⟩, .string ⟨#[75]⟩, .string ⟨#[65]⟩]
def suitsRow : Array Value := #[.string ⟨#[99]⟩, .string ⟨#[100]⟩, .string ⟨#[104]⟩, .string ⟨#[115]⟩]
def picsRow : Array Value := #[.string ⟨#[226, 153, 163]⟩, .string ⟨#[226, 153, 166]⟩, .string ⟨#[226, 153, 165]⟩, .string ⟨#[226, 153, 160]⟩]

theorem ranks_at (c : Nat) (h : c < 52) : ranksRow[c / 4]? = some (.string (rkS c)) := by
  have hj : c / 4 < 13 := by omega
  unfold rkS
  generalize c / 4 = j at hj
  match j, hj with
  | 0, _ => rfl
  | 1, _ => rfl
  | 2, _ => rfl
  | 3, _ => rfl
  | 4, _ => rfl
  | 5, _ => rfl
  | 6, _ => rfl
  | 7, _ => rfl
  | 8, _ => rfl
  | 9, _ => rfl
  | 10, _ => rfl
  | 11, _ => rfl
  | 12, _ => rfl

theorem suits_at (c : Nat) : suitsRow[c % 4]? = some (.string (suS c)) := by
  have hj : c % 4 < 4 := by omega
  unfold suS
  generalize c % 4 = j at hj
  match j, hj with
  | 0, _ => rfl
  | 1, _ => rfl
  | 2, _ => rfl
  | 3, _ => rfl

theorem pics_at (c : Nat) : picsRow[c % 4]? = some (.string (picS c)) := by
  have hj : c % 4 < 4 := by omega
  unfold picS
  generalize c % 4 = j at hj
  match j, hj with
  | 0, _ => rfl
  | 1, _ => rfl
  | 2, _ => rfl
  | 3, _ => rfl

theorem row_cell (w : World) (cur : Array Value) (e : TypeId) (j : Nat) : (w.alloc (.cells cur e)).cell? ⟨w.heap.size, j, none⟩ = cur[j]? :=
  cell_of_row _ _ j cur e (0, 0) (heap_alloc_new w _)

set_option maxHeartbeats 400000 in
theorem CardText_any (c : Nat) (hc : c < 52) (w : World) :
    Calls Try.prog 11 #[.int .i64 c] w fun e w' => e = .returned (.string (txt c)) ∧ Below w.heap.size w w' := by
  have h1 : (w.alloc (.cells #[.string ⟨#[50]⟩, .string ⟨#[51]⟩, .string ⟨#[52]⟩, .string ⟨#[53]⟩, .string ⟨#[54]⟩, .string ⟨#[55]⟩, .string ⟨#[56]⟩, .string ⟨#[57]⟩, .string ⟨#[84]⟩, .string ⟨#[74]⟩, .string ⟨#[81]⟩, .string ⟨#[75]⟩, .string ⟨#[65]⟩] 9)).cell? ⟨w.heap.size, c / 4, none⟩ = some (.string (rkS c)) :=
    (row_cell w ranksRow 9 (c / 4)).trans (ranks_at c hc)
  have h2 : ((w.alloc (.cells #[.string ⟨#[50]⟩, .string ⟨#[51]⟩, .string ⟨#[52]⟩, .string ⟨#[53]⟩, .string ⟨#[54]⟩, .string ⟨#[55]⟩, .string ⟨#[56]⟩, .string ⟨#[57]⟩, .string ⟨#[84]⟩, .string ⟨#[74]⟩, .string ⟨#[81]⟩, .string ⟨#[75]⟩, .string ⟨#[65]⟩] 9)).alloc (.cells #[.string ⟨#[99]⟩, .string ⟨#[100]⟩, .string ⟨#[104]⟩, .string ⟨#[115]⟩] 9)).cell? ⟨w.heap.size + 1, c % 4, none⟩ = some (.string (suS c)) := by
    have h := row_cell (w.alloc (.cells ranksRow 9)) suitsRow 9 (c % 4)
    have e : (w.alloc (.cells ranksRow 9)).heap.size = w.heap.size + 1 := by simp
    rw [e] at h
    exact h.trans (suits_at c)
  have h3 : ((w.alloc (.cells #[.string ⟨#[50]⟩, .string ⟨#[51]⟩, .string ⟨#[52]⟩, .string ⟨#[53]⟩, .string ⟨#[54]⟩, .string ⟨#[55]⟩, .string ⟨#[56]⟩, .string ⟨#[57]⟩, .string ⟨#[84]⟩, .string ⟨#[74]⟩, .string ⟨#[81]⟩, .string ⟨#[75]⟩, .string ⟨#[65]⟩] 9)).alloc (.cells #[.string ⟨#[99]⟩, .string ⟨#[100]⟩, .string ⟨#[104]⟩, .string ⟨#[115]⟩] 9)).cell? ⟨w.heap.size, c / 4, none⟩ = some (.string (rkS c)) := by
    rw [World.cell?_of_block (w := w.alloc (.cells #[.string ⟨#[50]⟩, .string ⟨#[51]⟩, .string ⟨#[52]⟩, .string ⟨#[53]⟩, .string ⟨#[54]⟩, .string ⟨#[55]⟩, .string ⟨#[56]⟩, .string ⟨#[57]⟩, .string ⟨#[84]⟩, .string ⟨#[74]⟩, .string ⟨#[81]⟩, .string ⟨#[75]⟩, .string ⟨#[65]⟩] 9)) (Below.heap_alloc _ _ _ (by simp))]
    exact h1
  have hs1 : (rkS c).size = 1 := rfl
  have hs2 : (suS c).size = 1 := rfl
  have HT : Hid (txt c = rkS c ++ suS c) := rfl
  generalize rkS c = RK at *
  generalize suS c = SU at *
  go_enter Try.func11, Try.ntmps11
  go_wp2
  go_region
  go_wp2
  go_ret
  refine ⟨?_, ?_⟩
  · rw [HT.out]
    rfl
  · exact (((Below.refl _ _).alloc (Nat.le_refl _) _).alloc (by simp) _).drew

/-- Does the text s tell the card c? -/
def mtB (s : ByteArray) (c : Nat) : Bool := s.toList == (txt c).toList || (s.toList == (rkS c ++ picS c).toList || ((rkS c).toList == [84] && (s.toList == ((⟨#[49, 48]⟩ : ByteArray) ++ suS c).toList || s.toList == ((⟨#[49, 48]⟩ : ByteArray) ++ picS c).toList)))

theorem txt_facts : ∀ c, c < 52 → (txt c).extract 0 1 = rkS c ∧ (txt c).extract 1 2 = suS c ∧ (txt c).size = 2 ∧ (picS c).size = 3 := by decide +kernel

theorem first_is {s : ByteArray} {v : Int} {k : Nat} (hv : (∃ c : Nat, c < 52 ∧ v = c ∧ mtB s c = true ∧ ∀ j, j < c → mtB s j = false) ∨ (v = -1 ∧ ∀ c, c < 52 → mtB s c = false)) (hk : k < 52) (hl : ∀ j, j < k → mtB s j = false) (h : mtB s k = true) : v = k := by
  rcases hv with ⟨c, hc, rfl, hm, hn⟩ | ⟨_, hn⟩
  · rcases Nat.lt_trichotomy c k with h1 | h1 | h1
    · rw [hl c h1] at hm; cases hm
    · rw [h1]
    · rw [hn k h1] at h; cases h
  · rw [hn k hk] at h; cases h

set_option maxHeartbeats 1000000 in
theorem ReadCard_any (s : ByteArray) (w : World) (v : Int) (hv : (∃ c : Nat, c < 52 ∧ v = c ∧ mtB s c = true ∧ ∀ j, j < c → mtB s j = false) ∨ (v = -1 ∧ ∀ c, c < 52 → mtB s c = false)) :
    Calls Try.prog 12 #[.string s] w fun e w' => e = .returned (.int .i64 v) ∧ Below w.heap.size w w' := by
  have HV := hide hv
  clear hv
  go_enter Try.func12, Try.ntmps12
  go_wp2_with fail
  go_loopw [4] (fun i wr => ∃ k : Nat, k ≤ 52 ∧ i = .int .i64 k ∧ Below (w.heap.size + 1) (w.alloc (.cells #[.string ⟨#[226, 153, 163]⟩, .string ⟨#[226, 153, 166]⟩, .string ⟨#[226, 153, 165]⟩, .string ⟨#[226, 153, 160]⟩] 9)) wr ∧ Hid (∀ j, j < k → mtB s j = false)) (fun i _ => 52 - (intOf i).toNat)
  case atStart => exact ⟨0, by omega, rfl, Below.refl _ _, fun j hj => absurd hj (by omega)⟩
  case round =>
    obtain ⟨k, hk, rfl, hB, HL⟩ := hrel
    have HB := hide hB
    clear hB
    by_cases hlt : k < 52
    · have hlt' : (k : Int) < 52 := by omega
      go_wp2_with fail
      refine (CardText_any k hlt _).mono ?_
      rintro e w2 ⟨rfl, hB2⟩
      have hpc : w2.cell? ⟨w.heap.size, k % 4, none⟩ = some (.string (picS k)) := by
        have h0 : (w.alloc (.cells picsRow 9)).cell? ⟨w.heap.size, k % 4, none⟩ = some (.string (picS k)) := (row_cell w picsRow 9 (k % 4)).trans (pics_at k)
        have h1 : wr.cell? ⟨w.heap.size, k % 4, none⟩ = some (.string (picS k)) := (HB.out.cell (by simp)).trans h0
        exact (hB2.cell (World.block_lt_of_cell? wr _ h1)).trans h1
      obtain ⟨f1, f2, f3, f4⟩ := txt_facts k hlt
      have HM : Hid (mtB s k = (s.toList == (txt k).toList || (s.toList == (rkS k ++ picS k).toList || ((rkS k).toList == [84] && (s.toList == ((⟨#[49, 48]⟩ : ByteArray) ++ suS k).toList || s.toList == ((⟨#[49, 48]⟩ : ByteArray) ++ picS k).toList))))) := rfl
      have HYES := hide (fun h => first_is HV.out hlt HL.out (h : mtB s k = true))
      have HNO : Hid (mtB s k = false → ∀ j, j < k + 1 → mtB s j = false) := hide (fun h j hj => by
        by_cases e : j = k
        · rw [e]; exact h
        · exact HL.out j (by omega))
      have hr1 : (rkS k).size = 1 := rfl
      have hr2 : (suS k).size = 1 := rfl
      have HB2 := hide hB2
      clear hB2
      generalize txt k = T at *
      generalize rkS k = RK at *
      generalize suS k = SU at *
      generalize picS k = PI at *
      have HSZ : w.heap.size + 1 ≤ wr.heap.size := by have := HB.out.size; simpa using this
      have hk4 : 0 ≤ (k : Int) % 4 ∧ (k : Int) % 4 < 4 := by omega
      cases b1 : (s.toList == T.toList) with
      | true =>
          go_wp2_with fail
          go_ret
          exact ⟨by rw [HYES.out (by rw [HM.out]; simp [b1])]; rfl, ((Below.refl _ _).alloc (Nat.le_refl _) _).trans ((HB.out.trans (HB2.out.mono HSZ)).mono (by omega))⟩
      | false =>
        cases b2 : (s.toList == (RK ++ PI).toList) with
        | true =>
          go_wp2_with fail
          go_ret
          exact ⟨by rw [HYES.out (by rw [HM.out]; simp [b1, b2])]; rfl, ((Below.refl _ _).alloc (Nat.le_refl _) _).trans ((HB.out.trans (HB2.out.mono HSZ)).mono (by omega))⟩
        | false =>
          cases b3 : (RK.toList == [84]) with
          | false =>
            go_wp2_with fail
            go_roundw
            case rel => exact ⟨k + 1, by omega, by go_num, (HB.out.trans (HB2.out.mono HSZ)), HNO.out (by rw [HM.out]; simp [b1, b2, b3])⟩
            case measure => simp [intOf]; omega
          | true =>
            cases b4 : (s.toList == ((⟨#[49, 48]⟩ : ByteArray) ++ SU).toList) with
            | true =>
              go_wp2_with fail
              go_ret
              exact ⟨by rw [HYES.out (by rw [HM.out]; simp [b1, b2, b3, b4])]; rfl, ((Below.refl _ _).alloc (Nat.le_refl _) _).trans ((HB.out.trans (HB2.out.mono HSZ)).mono (by omega))⟩
            | false =>
              cases b5 : (s.toList == ((⟨#[49, 48]⟩ : ByteArray) ++ PI).toList) with
              | true =>
                go_wp2_with fail
                go_ret
                exact ⟨by rw [HYES.out (by rw [HM.out]; simp [b1, b2, b3, b4, b5])]; rfl, ((Below.refl _ _).alloc (Nat.le_refl _) _).trans ((HB.out.trans (HB2.out.mono HSZ)).mono (by omega))⟩
              | false =>
                go_wp2_with fail
                go_roundw
                case rel => exact ⟨k + 1, by omega, by go_num, (HB.out.trans (HB2.out.mono HSZ)), HNO.out (by rw [HM.out]; simp [b1, b2, b3, b4, b5])⟩
                case measure => simp [intOf]; omega
    · have hke : k = 52 := by omega
      subst hke
      have hv1 : v = -1 := by
        rcases HV.out with ⟨c, hc, _, hm, _⟩ | ⟨h, _⟩
        · rw [HL.out c hc] at hm; cases hm
        · exact h
      go_wp2_with fail
      go_ret
      exact ⟨by rw [hv1]; rfl, ((Below.refl _ _).alloc (Nat.le_refl _) _).trans (HB.out.mono (by omega))⟩

end Go.Proofs.Ytdipbbcggccgcaa
