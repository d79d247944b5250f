/-
  Chess as texts: which piece a sign tells. No conditions beyond those that each theorem bears.
-/
import Derived.Test.YtdmlamnonbmboaaGreatDoorV02
import Derived.Test.YtdmlamnonbmboaaGreatDoorV45
namespace Go.Proofs.YtdmlamnonbmboaaGreatDoor
open Go.RowKit

/-- The runes of a text from a place on; the first number: how many there may be at most. -/
def runes (s : ByteArray) : Nat → Nat → List Int
  | 0, _ => []
  | f + 1, pos => if pos < s.size then ((Utf8.decode s pos).1 : Int) :: runes s f (pos + (Utf8.decode s pos).2) else []
def runesOf (s : ByteArray) : List Int := runes s s.size 0
theorem width_pos (s : ByteArray) (pos : Nat) (h : pos < s.size) : 1 ≤ (Utf8.decode s pos).2 := by
  by_cases ha : (s[pos]'h).toNat < 128
  · rw [decode_ascii s pos h ha]
    exact Nat.le_refl _
  · exact (decode_high s pos h (by omega)).2
theorem runes_end (s : ByteArray) (f pos : Nat) (h : ¬ pos < s.size) : runes s f pos = [] := by
  cases f with
  | zero => rfl
  | succ f => simp [runes, h]
/-- Where x stands first, counted from n + 1 on; 0: nowhere. -/
def kdA : List Int → Int → Nat → Nat
  | [], _, _ => 0
  | y :: l, x, n => if y = x then n + 1 else kdA l x (n + 1)
theorem kdA_le (x : Int) : ∀ (l : List Int) (n : Nat), kdA l x n ≤ n + l.length
  | [], n => by simp [kdA]
  | y :: l, n => by
    have := kdA_le x l (n + 1)
    simp only [kdA, List.length_cons]
    split <;> omega
theorem below_iter (w : World) (s : ByteArray) (pos : Nat) : Below w.heap.size w (w.iter s pos) := (Below.refl _ _).alloc (Nat.le_refl _) _

set_option maxRecDepth 1000000 in
set_option maxHeartbeats 800000 in
theorem kindAmong_any (s : ByteArray) (x : Int) (w : World) (hs : s.size ≤ 104) :
    Calls Tryz.prog 161 #[.int .i32 x, .string s] w fun e w' => e = .returned (.int .i64 (kdA (runesOf s) x 0 : Nat)) ∧ Below w.heap.size w w' := by
  go_enter Tryz.func161, Tryz.ntmps161
  go_wp2
  go_loopw [5] (fun i wr => ∃ (pos f n : Nat), wr = w.iter s pos ∧ i = .int .i64 n ∧ n ≤ pos ∧ n ≤ 104 ∧ Hid (kdA (runes s f pos) x n = kdA (runesOf s) x 0) ∧ s.size ≤ pos + f) (fun _ wr => s.size - wr.iterPos w.heap.size)
  case atStart => exact ⟨0, s.size, 0, rfl, rfl, Nat.le_refl _, by omega, rfl, by omega⟩
  case round =>
    obtain ⟨pos, f, n, rfl, rfl, hnp, hn, HP, hf⟩ := hrel
    by_cases hp : pos < s.size
    · have hnx : ∀ ty, (Instr.next (.pointer (some ⟨w.heap.size, 0, none⟩)) true ty).run Tryz.prog (w.iter s pos) = _ := fun ty => run_next_any w s pos ty hp
      have hwd := width_pos s pos hp
      obtain ⟨g, rfl⟩ : ∃ g, f = g + 1 := ⟨f - 1, by omega⟩
      have hstep : runes s (g + 1) pos = ((Utf8.decode s pos).1 : Int) :: runes s g (pos + (Utf8.decode s pos).2) := by simp [runes, hp]
      rw [hstep] at HP
      clear hstep
      obtain ⟨⟨r, d⟩, hrd⟩ : ∃ q, q = Utf8.decode s pos := ⟨_, rfl⟩
      rw [← hrd] at hnx hwd HP
      simp only at hnx hwd HP
      clear hrd
      by_cases hv : (r : Int) = x
      · have hb : ((r : Int) == x) = true := by simpa using hv
        have HR : Hid (kdA (runesOf s) x 0 = n + 1) := hide (by rw [← HP.out]; simp [kdA, hv])
        clear hv
        go_wp2
        go_ret
        exact ⟨by rw [HR.out]; rfl, below_iter _ _ _⟩
      · have hb : ((r : Int) == x) = false := by simpa using hv
        have HR : Hid (kdA (runes s g (pos + d)) x (n + 1) = kdA (runesOf s) x 0) := hide (by rw [← HP.out]; simp [kdA, hv])
        clear hv
        go_wp2
        go_roundw
        case rel => exact ⟨pos + d, g, n + 1, rfl, by go_num, by omega, by omega, HR, by omega⟩
        case measure => simp; omega
    · have hnx : ∀ ty, (Instr.next (.pointer (some ⟨w.heap.size, 0, none⟩)) true ty).run Tryz.prog (w.iter s pos) = _ := fun ty => run_next_end w s pos ty hp
      have HR : Hid (kdA (runesOf s) x 0 = 0) := hide (by rw [← HP.out, runes_end s f pos hp]; rfl)
      go_wp2
      go_ret
      exact ⟨by rw [HR.out]; rfl, below_iter _ _ _⟩

def wLs : List Int := [80, 78, 66, 82, 81, 75]
def bLs : List Int := [112, 110, 98, 114, 113, 107]
def wPs : List Int := [9817, 9816, 9815, 9814, 9813, 9812]
def bPs : List Int := [9823, 9822, 9821, 9820, 9819, 9818]
theorem runes_wL : runesOf ⟨#[80, 78, 66, 82, 81, 75]⟩ = wLs := by decide +kernel
theorem runes_bL : runesOf ⟨#[112, 110, 98, 114, 113, 107]⟩ = bLs := by decide +kernel
theorem runes_wP : runesOf ⟨#[226, 153, 153, 226, 153, 152, 226, 153, 151, 226, 153, 150, 226, 153, 149, 226, 153, 148]⟩ = wPs := by decide +kernel
theorem runes_bP : runesOf ⟨#[226, 153, 159, 226, 153, 158, 226, 153, 157, 226, 153, 156, 226, 153, 155, 226, 153, 154]⟩ = bPs := by decide +kernel

/-- The piece that a letter tells, the piece that a picture tells. -/
def lPc (x : Int) : Int := (kdA wLs x 0 : Int) - (kdA bLs x 0 : Int)
def pPc (x : Int) : Int := (kdA wPs x 0 : Int) - (kdA bPs x 0 : Int)
theorem kd6 (l : List Int) (hl : l.length = 6) (x : Int) : kdA l x 0 ≤ 6 := by
  have := kdA_le x l 0
  omega

set_option maxRecDepth 1000000 in
theorem ByLetter_any (x : Int) (w : World) : Calls Tryz.prog 146 #[.int .i32 x] w fun e w' => e = .returned (.int .i64 (lPc x)) ∧ Below w.heap.size w w' := by
  have H1 := hide (fun w => kindAmong_any ⟨#[80, 78, 66, 82, 81, 75]⟩ x w (by decide))
  have H2 := hide (fun w => kindAmong_any ⟨#[112, 110, 98, 114, 113, 107]⟩ x w (by decide))
  rw [runes_wL] at H1
  rw [runes_bL] at H2
  have h1 := kd6 wLs rfl x
  have h2 := kd6 bLs rfl x
  unfold lPc
  generalize kdA wLs x 0 = A at *
  generalize kdA bLs x 0 = B at *
  go_enter Tryz.func146, Tryz.ntmps146
  go_wp2_with fail
  refine (H1.out _).mono ?_
  rintro e w1 ⟨rfl, hb1⟩
  have HB1 := hide hb1
  clear hb1
  go_wp2_with fail
  refine (H2.out _).mono ?_
  rintro e w2 ⟨rfl, hb2⟩
  have HB2 := hide (HB1.out.trans (hb2.mono HB1.out.size))
  clear hb2
  go_wp2_with fail
  go_ret
  exact ⟨by first | rfl | go_num, HB2.out⟩

set_option maxRecDepth 1000000 in
theorem ByPicture_any (x : Int) (w : World) : Calls Tryz.prog 147 #[.int .i32 x] w fun e w' => e = .returned (.int .i64 (pPc x)) ∧ Below w.heap.size w w' := by
  have H1 := hide (fun w => kindAmong_any ⟨#[226, 153, 153, 226, 153, 152, 226, 153, 151, 226, 153, 150, 226, 153, 149, 226, 153, 148]⟩ x w (by decide))
  have H2 := hide (fun w => kindAmong_any ⟨#[226, 153, 159, 226, 153, 158, 226, 153, 157, 226, 153, 156, 226, 153, 155, 226, 153, 154]⟩ x w (by decide))
  rw [runes_wP] at H1
  rw [runes_bP] at H2
  have h1 := kd6 wPs rfl x
  have h2 := kd6 bPs rfl x
  unfold pPc
  generalize kdA wPs x 0 = A at *
  generalize kdA bPs x 0 = B at *
  go_enter Tryz.func147, Tryz.ntmps147
  go_wp2_with fail
  refine (H1.out _).mono ?_
  rintro e w1 ⟨rfl, hb1⟩
  have HB1 := hide hb1
  clear hb1
  go_wp2_with fail
  refine (H2.out _).mono ?_
  rintro e w2 ⟨rfl, hb2⟩
  have HB2 := hide (HB1.out.trans (hb2.mono HB1.out.size))
  clear hb2
  go_wp2_with fail
  go_ret
  exact ⟨by first | rfl | go_num, HB2.out⟩

theorem lPc_bd (x : Int) : -6 ≤ lPc x ∧ lPc x ≤ 6 := by
  have h1 := kd6 wLs rfl x
  have h2 := kd6 bLs rfl x
  unfold lPc
  omega
theorem pPc_bd (x : Int) : -6 ≤ pPc x ∧ pPc x ≤ 6 := by
  have h1 := kd6 wPs rfl x
  have h2 := kd6 bPs rfl x
  unfold pPc
  omega

attribute [local irreducible] lPc pPc

set_option maxRecDepth 1000000 in
theorem pieceBy_any (x : Int) (w : World) : Calls Tryz.prog 122 #[.int .i32 x] w fun e w' => e = .returned (.int .i64 (lPc x + pPc x)) ∧ Below w.heap.size w w' := by
  have HL := hide (ByLetter_any x)
  have HP := hide (ByPicture_any x)
  have h1 := lPc_bd x
  have h2 := pPc_bd x
  generalize lPc x = A at *
  generalize pPc x = B at *
  go_enter Tryz.func122, Tryz.ntmps122
  go_wp2_with fail
  refine (HL.out _).mono ?_
  rintro e w1 ⟨rfl, hb1⟩
  have HB1 := hide hb1
  clear hb1
  go_wp2_with fail
  refine (HP.out _).mono ?_
  rintro e w2 ⟨rfl, hb2⟩
  have HB2 := hide (HB1.out.trans (hb2.mono HB1.out.size))
  clear hb2
  go_wp2_with fail
  go_ret
  exact ⟨by first | rfl | go_num, HB2.out⟩

/-- How many empty places a sign tells: the digits from 1 to 8. -/
def dgt (x : Int) : Nat := if 49 ≤ x ∧ x ≤ 56 then (x - 48).toNat else 0
theorem dgt_is : ∀ n : Nat, n < 128 → Lib.indexByte [49, 50, 51, 52, 53, 54, 55, 56] ((n : Int).toNat.toUInt8) = (dgt (n : Int) : Int) - 1 := by decide +kernel
/-- What a sign tells: a piece, and how many places. -/
def tbR (x : Int) : Int × Nat := if 0 < dgt x then (0, dgt x) else if lPc x + pPc x ≠ 0 then (lPc x + pPc x, 1) else (0, 0)

attribute [local irreducible] dgt

set_option maxRecDepth 1000000 in
theorem toldBy_ascii (n : Nat) (hn : n < 128) (w : World) : Calls Tryz.prog 96 #[.int .i32 (n : Nat)] w fun e w' => e = .returned (.tuple #[.int .i64 (tbR (n : Nat)).1, .int .i64 ((tbR (n : Nat)).2 : Nat)]) ∧ Below w.heap.size w w' := by
  have HI := hide (fun w => Tryz.strings_IndexRune_ascii ⟨#[49, 50, 51, 52, 53, 54, 55, 56]⟩ (n : Int) w (by omega) (by omega))
  have hd := dgt_is n hn
  rw [show ((⟨#[49, 50, 51, 52, 53, 54, 55, 56]⟩ : ByteArray).data.toList) = [49, 50, 51, 52, 53, 54, 55, 56] from rfl, hd] at HI
  have HP := hide (pieceBy_any (n : Int))
  have hdb : dgt (n : Int) ≤ 8 := by unfold dgt; split <;> omega
  unfold tbR
  generalize dgt (n : Int) = D at *
  generalize lPc (n : Int) + pPc (n : Int) = A at *
  clear hd
  by_cases h0 : 0 < D
  · rw [if_pos h0]
    have h0' : (0 : Int) < (D : Int) - 1 + 1 := by omega
    go_enter Tryz.func96, Tryz.ntmps96
    go_wp2_with (refine (HI.out _).mono ?_; rintro e w5 ⟨rfl, hw⟩; subst w5)
    try simp only [Exit.inBlock, Exit.then]
    refine bodyPost_ret (results_tmp2 rfl _ _ _) rfl ?_
    exact ⟨by first | rfl | (congr 4; omega), Below.refl _ _⟩
  · obtain rfl : D = 0 := by omega
    rw [if_neg h0]
    by_cases hA : A = 0
    · rw [if_neg (by simp [hA])]
      have hAb : (A != 0) = false := by simp [hA]
      go_enter Tryz.func96, Tryz.ntmps96
      go_wp2_with (first | (go_at_call 121; refine (HI.out _).mono ?_; rintro e w5 ⟨rfl, hw⟩; subst w5) | (go_at_call 122; refine (HP.out _).mono ?_))
      rintro e w1 ⟨rfl, hb1⟩
      have HB1 := hide hb1
      clear hb1
      go_wp2_with fail
      try simp only [Exit.inBlock, Exit.then]
      refine bodyPost_ret (results_tmp2 rfl _ _ _) rfl ?_
      exact ⟨rfl, HB1.out⟩
    · rw [if_pos hA]
      have hAb : (A != 0) = true := by simp [hA]
      go_enter Tryz.func96, Tryz.ntmps96
      go_wp2_with (first | (go_at_call 121; refine (HI.out _).mono ?_; rintro e w5 ⟨rfl, hw⟩; subst w5) | (go_at_call 122; refine (HP.out _).mono ?_))
      rintro e w1 ⟨rfl, hb1⟩
      have HB1 := hide hb1
      clear hb1
      go_wp2_with fail
      try simp only [Exit.inBlock, Exit.then]
      refine bodyPost_ret (results_tmp2 rfl _ _ _) rfl ?_
      exact ⟨rfl, HB1.out⟩

end Go.Proofs.YtdmlamnonbmboaaGreatDoor
