/-
  What package deck's letterAt, placeOf, suitOf and firstLetters answer, in the runes that a text holds. No conditions beyond those that each theorem bears.
-/
import Derived.Test.YtdipbbcggccgcaaCard
import Derived.Lib.OthersKept
namespace Go.Proofs.Ytdipbbcggccgcaa
open Go.RowKit

/-- The runes of a text from a place on; the first number: how many there may be at most. -/
def runes (s : ByteArray) : Nat → Nat → List Int
  | 0, _ => []
  | f + 1, pos => if pos < s.size then ((Utf8.decode s pos).1 : Int) :: runes s f (pos + (Utf8.decode s pos).2) else []

def runesOf (s : ByteArray) : List Int := runes s s.size 0

theorem width_pos (s : ByteArray) (pos : Nat) (h : pos < s.size) : 1 ≤ (Utf8.decode s pos).2 := by
  by_cases ha : (s[pos]'h).toNat < 128
  · rw [decode_ascii s pos h ha]
    exact Nat.le_refl _
  · exact (decode_high s pos h (by omega)).2

theorem runes_end (s : ByteArray) (f pos : Nat) (h : ¬ pos < s.size) : runes s f pos = [] := by
  cases f with
  | zero => rfl
  | succ f => simp [runes, h]

/-- Where x stands first, counted from n on; -1: nowhere. -/
def plc : List Int → Int → Nat → Int
  | [], _, _ => -1
  | y :: l, x, n => if y = x then (n : Int) else plc l x (n + 1)

theorem below_iter (w : World) (s : ByteArray) (pos : Nat) : Below w.heap.size w (w.iter s pos) := (Below.refl _ _).alloc (Nat.le_refl _) _

set_option maxRecDepth 1000000 in
set_option maxHeartbeats 400000 in
theorem placeOf_any (s : ByteArray) (x : Int) (w : World) (hs : s.size ≤ 104) :
    Calls Try.prog 33 #[.string s, .int .i32 x] w fun e w' => e = .returned (.int .i64 (plc (runesOf s) x 0)) ∧ Below w.heap.size w w' := by
  go_enter Try.func33, Try.ntmps33
  go_wp2
  go_loopw [5] (fun i wr => ∃ (pos f n : Nat), wr = w.iter s pos ∧ i = .int .i64 n ∧ n ≤ pos ∧ n ≤ 104 ∧ Hid (plc (runes s f pos) x n = plc (runesOf s) x 0) ∧ s.size ≤ pos + f) (fun _ wr => s.size - wr.iterPos w.heap.size)
  case atStart => exact ⟨0, s.size, 0, rfl, rfl, Nat.le_refl _, by omega, rfl, by omega⟩
  case round =>
    obtain ⟨pos, f, n, rfl, rfl, hnp, hn, HP, hf⟩ := hrel
    by_cases hp : pos < s.size
    · have hnx : ∀ ty, (Instr.next (.pointer (some ⟨w.heap.size, 0, none⟩)) true ty).run Try.prog (w.iter s pos) = _ := fun ty => run_next_any w s pos ty hp
      have hwd := width_pos s pos hp
      obtain ⟨g, rfl⟩ : ∃ g, f = g + 1 := ⟨f - 1, by omega⟩
      have hstep : runes s (g + 1) pos = ((Utf8.decode s pos).1 : Int) :: runes s g (pos + (Utf8.decode s pos).2) := by simp [runes, hp]
      rw [hstep] at HP
      clear hstep
      obtain ⟨⟨r, d⟩, hrd⟩ : ∃ q, q = Utf8.decode s pos := ⟨_, rfl⟩
      rw [← hrd] at hnx hwd HP
      simp only at hnx hwd HP
      clear hrd
      by_cases hv : (r : Int) = x
      · have hb : ((r : Int) == x) = true := by simpa using hv
        have HR : Hid (plc (runesOf s) x 0 = (n : Int)) := hide (by rw [← HP.out]; simp [plc, hv])
        clear hv
        go_wp2
        go_ret
        exact ⟨by rw [HR.out]; rfl, below_iter _ _ _⟩
      · have hb : ((r : Int) == x) = false := by simpa using hv
        have HR : Hid (plc (runes s g (pos + d)) x (n + 1) = plc (runesOf s) x 0) := hide (by rw [← HP.out]; simp [plc, hv])
        clear hv
        go_wp2
        go_roundw
        case rel => exact ⟨pos + d, g, n + 1, rfl, by go_num, by omega, by omega, HR, by omega⟩
        case measure => simp; omega
    · have hnx : ∀ ty, (Instr.next (.pointer (some ⟨w.heap.size, 0, none⟩)) true ty).run Try.prog (w.iter s pos) = _ := fun ty => run_next_end w s pos ty hp
      have HR : Hid (plc (runesOf s) x 0 = -1) := hide (by rw [← HP.out, runes_end s f pos hp]; rfl)
      go_wp2
      go_ret
      exact ⟨by rw [HR.out]; rfl, below_iter _ _ _⟩

theorem plc_bd (l : List Int) (x : Int) (n : Nat) : -1 ≤ plc l x n ∧ plc l x n ≤ n + l.length := by
  induction l generalizing n with
  | nil => simp [plc]
  | cons y l ih =>
    simp only [plc]
    split
    · simp; omega
    · have := ih (n + 1); simp at this ⊢; omega

set_option maxRecDepth 1000000 in
set_option maxHeartbeats 400000 in
theorem letterAt_any (s : ByteArray) (p : Nat) (w : World) (hp : p < (runesOf s).length) (hp4 : p ≤ 104) :
    Calls Try.prog 31 #[.string s, .int .i64 p] w fun e w' => e = .returned (.int .i32 ((runesOf s).getD p 0)) ∧ Below w.heap.size w w' := by
  go_enter Try.func31, Try.ntmps31
  go_wp2
  go_loopw [5] (fun i wr => ∃ (pos f n : Nat), wr = w.iter s pos ∧ i = .int .i64 n ∧ n ≤ p ∧ Hid (p - n < (runes s f pos).length ∧ (runes s f pos).getD (p - n) 0 = (runesOf s).getD p 0) ∧ s.size ≤ pos + f) (fun _ wr => s.size - wr.iterPos w.heap.size)
  case atStart => exact ⟨0, s.size, 0, rfl, rfl, by omega, ⟨hp, rfl⟩, by omega⟩
  case round =>
    obtain ⟨pos, f, n, rfl, rfl, hnp, HP, hf⟩ := hrel
    by_cases hps : pos < s.size
    · have hnx : ∀ ty, (Instr.next (.pointer (some ⟨w.heap.size, 0, none⟩)) true ty).run Try.prog (w.iter s pos) = _ := fun ty => run_next_any w s pos ty hps
      have hwd := width_pos s pos hps
      obtain ⟨g, rfl⟩ : ∃ g, f = g + 1 := ⟨f - 1, by omega⟩
      have hstep : runes s (g + 1) pos = ((Utf8.decode s pos).1 : Int) :: runes s g (pos + (Utf8.decode s pos).2) := by simp [runes, hps]
      rw [hstep] at HP
      clear hstep
      obtain ⟨⟨r, d⟩, hrd⟩ : ∃ q, q = Utf8.decode s pos := ⟨_, rfl⟩
      rw [← hrd] at hnx hwd HP
      simp only at hnx hwd HP
      clear hrd
      by_cases hv : n = p
      · have hb : ((n : Int) == (p : Int)) = true := by simp; omega
        have HR : Hid ((runesOf s).getD p 0 = (r : Int)) := hide (by rw [← HP.out.2, hv, Nat.sub_self]; rfl)
        clear hv
        go_wp2
        go_ret
        exact ⟨by rw [HR.out]; rfl, below_iter _ _ _⟩
      · have hb : ((n : Int) == (p : Int)) = false := by simp; omega
        have HR : Hid (p - (n + 1) < (runes s g (pos + d)).length ∧ (runes s g (pos + d)).getD (p - (n + 1)) 0 = (runesOf s).getD p 0) := hide (by
          obtain ⟨h1, h2⟩ := HP.out
          rw [show p - n = (p - (n + 1)) + 1 by omega] at h1 h2
          exact ⟨by simpa using h1, by rw [← h2]; rfl⟩)
        go_wp2
        go_roundw
        case rel => exact ⟨pos + d, g, n + 1, rfl, by go_num, by omega, HR, by omega⟩
        case measure => simp; omega
    · exfalso
      have := HP.out.1
      rw [runes_end s f pos hps] at this
      simp at this

def ranksStr : ByteArray := ⟨#[50, 51, 52, 53, 54, 55, 56, 57, 84, 74, 81, 75, 65]⟩
def suitsStr : ByteArray := ⟨#[99, 100, 104, 115]⟩
def picsStr : ByteArray := ⟨#[226, 153, 163, 226, 153, 166, 226, 153, 165, 226, 153, 160]⟩
def ranksL : List Int := [50, 51, 52, 53, 54, 55, 56, 57, 84, 74, 81, 75, 65]
def suitsL : List Int := [99, 100, 104, 115]
def picsL : List Int := [9827, 9830, 9829, 9824]

theorem ranks_runes : runesOf ranksStr = ranksL := by decide +kernel
theorem suits_runes : runesOf suitsStr = suitsL := by decide +kernel
theorem pics_runes : runesOf picsStr = picsL := by decide +kernel

def suF (x : Int) : Int := if 0 ≤ plc suitsL x 0 then plc suitsL x 0 else plc picsL x 0

theorem suF_bd (x : Int) : -1 ≤ suF x ∧ suF x ≤ 4 := by
  have h1 := plc_bd suitsL x 0
  have h2 := plc_bd picsL x 0
  have e1 : suitsL.length = 4 := rfl
  have e2 : picsL.length = 4 := rfl
  unfold suF
  split <;> omega

set_option maxHeartbeats 400000 in
theorem suitOf_any (x : Int) (w : World) :
    Calls Try.prog 34 #[.int .i32 x] w fun e w' => e = .returned (.int .i64 (suF x)) ∧ Below w.heap.size w w' := by
  go_enter Try.func34, Try.ntmps34
  go_wp2_with fail
  refine (placeOf_any suitsStr x _ (by decide)).mono ?_
  rintro e w1 ⟨rfl, hB1⟩
  rw [suits_runes]
  have hbd := plc_bd suitsL x 0
  have HS : Hid (suF x = if 0 ≤ plc suitsL x 0 then plc suitsL x 0 else plc picsL x 0) := rfl
  have e1 : suitsL.length = 4 := rfl
  rw [e1] at hbd
  obtain ⟨hb1, hb2⟩ := hbd
  clear e1
  generalize plc suitsL x 0 = V at *
  by_cases hv : 0 ≤ V
  · go_wp2_with fail
    go_ret
    exact ⟨by rw [HS.out, if_pos hv]; rfl, hB1⟩
  · go_wp2_with fail
    refine (placeOf_any picsStr x _ (by decide)).mono ?_
    rintro e w2 ⟨rfl, hB2⟩
    rw [pics_runes]
    have HS2 : Hid (suF x = plc picsL x 0) := hide (by rw [HS.out, if_neg (by omega)])
    rw [← HS2.out]
    go_wp2_with fail
    go_ret
    exact ⟨rfl, hB1.trans (hB2.mono hB1.size)⟩

theorem show_facts : ∀ c, c < 52 → Utf8.encode (ranksL.getD (c / 4) 0) = rkS c ∧ Utf8.encode (suitsL.getD (c % 4) 0) = suS c := by decide +kernel

set_option maxHeartbeats 400000 in
theorem Show_no (c : Int) (w : World) (h : c < 0 ∨ 51 < c) :
    Calls Try.prog 9 #[.int .i64 c] w fun e w' => e = .returned (.tuple #[.string ⟨#[]⟩, .int .i64 3]) ∧ w' = w := by
  by_cases h1 : c < 0
  · go_enter Try.func9, Try.ntmps9
    go_wp2_with fail
    go_ret2
    exact ⟨rfl, rfl⟩
  · have h2 : 52 ≤ c := by omega
    go_enter Try.func9, Try.ntmps9
    go_wp2_with fail
    go_ret2
    exact ⟨rfl, rfl⟩

set_option maxHeartbeats 400000 in
theorem Show_yes (c : Nat) (w : World) (h : c < 52) :
    Calls Try.prog 9 #[.int .i64 c] w fun e w' => e = .returned (.tuple #[.string (txt c), .int .i64 0]) ∧ Below w.heap.size w w' := by
  have h' : ¬ (52 : Int) ≤ (c : Int) := by omega
  have hq : (c : Int) / 4 = ((c / 4 : Nat) : Int) := by simp
  have hr : (c : Int) % 4 = ((c % 4 : Nat) : Int) := by simp
  have hq2 : c / 4 < 13 := by omega
  have hr2 : c % 4 < 4 := by omega
  obtain ⟨f1, f2⟩ := show_facts c h
  have hs1 : (rkS c).size = 1 := rfl
  have hs2 : (suS c).size = 1 := rfl
  have HT : Hid (txt c = rkS c ++ suS c) := rfl
  generalize c / 4 = Q at *
  generalize c % 4 = R at *
  generalize rkS c = RK at *
  generalize suS c = SU at *
  go_enter Try.func9, Try.ntmps9
  go_wp2_with fail
  refine (letterAt_any ranksStr Q _ (by rw [ranks_runes]; exact hq2) (by omega)).mono ?_
  rintro e w1 ⟨rfl, hB1⟩
  rw [ranks_runes]
  generalize ranksL.getD Q 0 = V1 at *
  go_wp2_with fail
  refine (letterAt_any suitsStr R _ (by rw [suits_runes]; exact hr2) (by omega)).mono ?_
  rintro e w2 ⟨rfl, hB2⟩
  rw [suits_runes]
  generalize suitsL.getD R 0 = V2 at *
  go_wp2_with fail
  go_ret2
  exact ⟨by rw [HT.out]; rfl, hB1.trans (hB2.mono hB1.size)⟩

end Go.Proofs.Ytdipbbcggccgcaa
