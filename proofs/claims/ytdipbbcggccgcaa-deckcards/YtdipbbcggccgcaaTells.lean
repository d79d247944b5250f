/-
  Plain facts: a text tells a card by its runes just if it is one of the card's texts, byte by byte (the 52 cards' texts are reckoned by the kernel).
-/
import Derived.Test.YtdipbbcggccgcaaRead
namespace Go.Proofs.Ytdipbbcggccgcaa

theorem ba_ext {a b : ByteArray} (h : a.toList = b.toList) : a = b := by
  rw [ByteArray.toList_eq, ByteArray.toList_eq] at h
  exact ByteArray.ext (Array.toList_inj.1 h)

/-- What is read of these runes: a card, or -1. -/
def readR : List Int → Int
  | [y, x] => if plc ranksL y 0 < 0 ∨ suF x < 0 then -1 else plc ranksL y 0 * 4 + suF x
  | [t, z, x] => if t = 49 ∧ z = 48 then (if plc ranksL 84 0 < 0 ∨ suF x < 0 then -1 else plc ranksL 84 0 * 4 + suF x) else -1
  | _ => -1

theorem chk_all : ∀ c, c < 52 → readR ((runesOf (txt c)).take 4) = c ∧ readR ((runesOf (rkS c ++ picS c)).take 4) = c ∧
    ((rkS c).data = #[84] → readR ((runesOf ((⟨#[49, 48]⟩ : ByteArray) ++ suS c)).take 4) = c ∧ readR ((runesOf ((⟨#[49, 48]⟩ : ByteArray) ++ picS c)).take 4) = c) := by decide +kernel

theorem tells_read (s : ByteArray) (c : Nat) (hc : c < 52) (h : mtB s c = true) : readR ((runesOf s).take 4) = c := by
  obtain ⟨h1, h2, h3⟩ := chk_all c hc
  unfold mtB at h
  simp only [Bool.or_eq_true, Bool.and_eq_true, beq_iff_eq] at h
  rcases h with h | h | ⟨ht, h | h⟩
  · rw [ba_ext h]; exact h1
  · rw [ba_ext h]; exact h2
  · rw [ba_ext h]; exact (h3 (by rw [ByteArray.toList_eq] at ht; exact Array.toList_inj.1 ht)).1
  · rw [ba_ext h]; exact (h3 (by rw [ByteArray.toList_eq] at ht; exact Array.toList_inj.1 ht)).2

theorem plc_yes (l : List Int) (x : Int) (n : Nat) (h : 0 ≤ plc l x n) : ∃ i, i < l.length ∧ plc l x n = ((n + i : Nat) : Int) ∧ l.getD i 0 = x := by
  induction l generalizing n with
  | nil => simp [plc] at h
  | cons y l ih =>
    simp only [plc] at h ⊢
    by_cases e : y = x
    · rw [if_pos e]
      exact ⟨0, by simp, by simp, by simpa using e⟩
    · rw [if_neg e] at h ⊢
      obtain ⟨i, hi, h1, h2⟩ := ih (n + 1) h
      exact ⟨i + 1, by simpa using hi, by rw [h1]; congr 1; omega, by simpa using h2⟩

/-! ### Back from runes to bytes -/

theorem get_eq (s : ByteArray) (pos : Nat) (h : pos < s.size) : s.get! pos = s[pos]'h := by
  have := get_at s pos h
  simpa using this

theorem dec_small (s : ByteArray) (pos : Nat) (h : pos < s.size) (hr : (Utf8.decode s pos).1 < 128) : (s.get! pos).toNat = (Utf8.decode s pos).1 ∧ (Utf8.decode s pos).2 = 1 := by
  by_cases ha : (s[pos]'h).toNat < 128
  · rw [decode_ascii s pos h ha, get_eq s pos h]
    exact ⟨rfl, rfl⟩
  · have := (decode_high s pos h (by omega)).1
    omega

theorem dec_pic' (s : ByteArray) (pos r d : Nat) (h : Utf8.decode s pos = (r, d)) (hr : 9792 ≤ r ∧ r < 9856) :
    (s.get! pos).toNat = 226 ∧ (s.get! (pos + 1)).toNat = 153 ∧ (s.get! (pos + 2)).toNat = r - 9664 ∧ d = 3 ∧ pos + 2 < s.size := by
  have b0 := (s.get! pos).toNat_lt
  have b1 := (s.get! (pos + 1)).toNat_lt
  unfold Utf8.decode at h
  dsimp only [Nat.add_zero] at h
  split at h
  · simp only [Prod.mk.injEq] at h; omega
  · split at h
    · split at h <;> simp only [Prod.mk.injEq, Utf8.runeError] at h <;> omega
    · split at h
      · rename_i c2
        simp only [Bool.and_eq_true, beq_iff_eq, decide_eq_true_eq] at c2
        split at h
        · simp only [Prod.mk.injEq] at h
          exact ⟨by omega, by omega, by omega, by omega, c2.2.1⟩
        · simp only [Prod.mk.injEq, Utf8.runeError] at h; omega
      · split at h
        · split at h
          · rename_i hv
            simp only [Bool.and_eq_true, decide_eq_true_eq] at hv
            simp only [Prod.mk.injEq] at h
            omega
          · simp only [Prod.mk.injEq, Utf8.runeError] at h; omega
        · simp only [Prod.mk.injEq, Utf8.runeError] at h; omega

theorem dec_pic (s : ByteArray) (pos : Nat) (hr : 9792 ≤ (Utf8.decode s pos).1 ∧ (Utf8.decode s pos).1 < 9856) :
    (s.get! pos).toNat = 226 ∧ (s.get! (pos + 1)).toNat = 153 ∧ (s.get! (pos + 2)).toNat = (Utf8.decode s pos).1 - 9664 ∧ (Utf8.decode s pos).2 = 3 ∧ pos + 2 < s.size :=
  dec_pic' s pos _ _ rfl hr

theorem runes_cons {s : ByteArray} {f pos : Nat} {r : Int} {l : List Int} (h : runes s f pos = r :: l) :
    ∃ g, f = g + 1 ∧ pos < s.size ∧ ((Utf8.decode s pos).1 : Int) = r ∧ runes s g (pos + (Utf8.decode s pos).2) = l := by
  cases f with
  | zero => simp [runes] at h
  | succ g =>
    simp only [runes] at h
    split at h
    · rename_i hp
      simp only [List.cons.injEq] at h
      exact ⟨g, rfl, hp, h.1, h.2⟩
    · cases h

theorem runes_nil {s : ByteArray} {f pos : Nat} (h : runes s f pos = []) (hf : s.size ≤ pos + f) : s.size ≤ pos := by
  cases f with
  | zero => omega
  | succ g =>
    simp only [runes] at h
    split at h
    · cases h
    · omega

theorem take_short {l m : List Int} (h : l.take 4 = m) (hm : m.length < 4) : l = m := by
  rw [← h]
  have : l.length < 4 := by
    rw [← h] at hm
    simp at hm
    omega
  rw [List.take_of_length_le (by omega)]

theorem bytes2 (s : ByteArray) (h : s.size = 2) : s.toList = [s.get! 0, s.get! 1] := by
  rw [ByteArray.toList_eq]
  obtain ⟨⟨l⟩⟩ := s
  match l, h with
  | [a, b], _ => rfl

theorem bytes3 (s : ByteArray) (h : s.size = 3) : s.toList = [s.get! 0, s.get! 1, s.get! 2] := by
  rw [ByteArray.toList_eq]
  obtain ⟨⟨l⟩⟩ := s
  match l, h with
  | [a, b, c], _ => rfl

theorem bytes4 (s : ByteArray) (h : s.size = 4) : s.toList = [s.get! 0, s.get! 1, s.get! 2, s.get! 3] := by
  rw [ByteArray.toList_eq]
  obtain ⟨⟨l⟩⟩ := s
  match l, h with
  | [a, b, c, d], _ => rfl

theorem bytes5 (s : ByteArray) (h : s.size = 5) : s.toList = [s.get! 0, s.get! 1, s.get! 2, s.get! 3, s.get! 4] := by
  rw [ByteArray.toList_eq]
  obtain ⟨⟨l⟩⟩ := s
  match l, h with
  | [a, b, c, d, e], _ => rfl

theorem u8_of {u : UInt8} {n : Nat} (h : u.toNat = n) : u = UInt8.ofNat n := by rw [← h]; simp

def b8 (x : Int) : UInt8 := UInt8.ofNat x.toNat

/-- The cards' texts, byte by byte. -/
theorem text_a : ∀ v, v < 13 → ∀ t, t < 4 →
    (txt (v * 4 + t)).data.toList = [b8 (ranksL.getD v 0), b8 (suitsL.getD t 0)] ∧
    (rkS (v * 4 + t) ++ picS (v * 4 + t)).data.toList = [b8 (ranksL.getD v 0), 226, 153, b8 (picsL.getD t 0 - 9664)] := by decide +kernel

theorem text_b : ∀ t, t < 4 →
    ((⟨#[49, 48]⟩ : ByteArray) ++ suS (8 * 4 + t)).data.toList = [49, 48, b8 (suitsL.getD t 0)] ∧
    ((⟨#[49, 48]⟩ : ByteArray) ++ picS (8 * 4 + t)).data.toList = [49, 48, 226, 153, b8 (picsL.getD t 0 - 9664)] ∧
    (rkS (8 * 4 + t)).data.toList = [84] := by decide +kernel

theorem text_r : ∀ v, v < 13 → 0 ≤ ranksL.getD v 0 ∧ ranksL.getD v 0 < 128 := by decide +kernel

theorem text_s : ∀ t, t < 4 → 0 ≤ suitsL.getD t 0 ∧ suitsL.getD t 0 < 128 ∧ 9792 ≤ picsL.getD t 0 ∧ picsL.getD t 0 < 9856 := by decide +kernel

theorem suF_yes (x : Int) (h : 0 ≤ suF x) : ∃ t : Nat, t < 4 ∧ suF x = (t : Int) ∧ (suitsL.getD t 0 = x ∨ picsL.getD t 0 = x) := by
  unfold suF at h ⊢
  by_cases h1 : 0 ≤ plc suitsL x 0
  · rw [if_pos h1]
    obtain ⟨i, hi, e1, e2⟩ := plc_yes suitsL x 0 h1
    exact ⟨i, hi, by rw [e1]; simp, .inl e2⟩
  · rw [if_neg h1] at h ⊢
    obtain ⟨i, hi, e1, e2⟩ := plc_yes picsL x 0 h
    exact ⟨i, hi, by rw [e1]; simp, .inr e2⟩

theorem read_tells (s : ByteArray) (h : 0 ≤ readR ((runesOf s).take 4)) : ∃ c : Nat, c < 52 ∧ readR ((runesOf s).take 4) = (c : Int) ∧ mtB s c = true := by
  generalize hR : (runesOf s).take 4 = R4 at h
  match R4, hR, h with
  | [], _, h => simp [readR] at h
  | [_], _, h => simp [readR] at h
  | [y, x], hR, h =>
    have hl := take_short hR (by simp)
    simp only [readR] at h ⊢
    by_cases hneg : plc ranksL y 0 < 0 ∨ suF x < 0
    · rw [if_pos hneg] at h; omega
    · rw [if_neg hneg] at h ⊢
      obtain ⟨v, hv, e1, e2⟩ := plc_yes ranksL y 0 (by omega)
      obtain ⟨t, ht, e3, e4⟩ := suF_yes x (by omega)
      have hv13 : v < 13 := hv
      obtain ⟨t1, t2⟩ := text_a v hv13 t ht
      obtain ⟨k1, k2⟩ := text_r v hv13
      obtain ⟨k3, k4, k5, k6⟩ := text_s t ht
      refine ⟨v * 4 + t, by omega, by rw [e1, e3]; simp, ?_⟩
      obtain ⟨g, hg, hp0, hd0, hr0⟩ := runes_cons hl
      have d0 := dec_small s 0 hp0 (by omega)
      rw [d0.2, Nat.zero_add] at hr0
      obtain ⟨g2, hg2, hp1, hd1, hr1⟩ := runes_cons hr0
      have hy : s.get! 0 = b8 (ranksL.getD v 0) := by rw [e2]; exact u8_of (by omega)
      unfold mtB
      rcases e4 with e4 | e4
      · have d1 := dec_small s 1 hp1 (by omega)
        rw [d1.2] at hr1
        have hsz := runes_nil hr1 (by omega)
        have hx : s.get! 1 = b8 (suitsL.getD t 0) := by rw [e4]; exact u8_of (by omega)
        have hbs := bytes2 s (by omega)
        rw [hy, hx, ← t1, ← ByteArray.toList_eq] at hbs
        simp [hbs]
      · have d1 := dec_pic s 1 (by omega)
        simp only [Nat.reduceAdd] at d1
        rw [d1.2.2.2.1] at hr1
        have hsz := runes_nil hr1 (by omega)
        have hx : s.get! 3 = b8 (picsL.getD t 0 - 9664) := by rw [e4]; exact u8_of (by omega)
        have hbs := bytes4 s (by omega)
        have h1 : s.get! 1 = 226 := u8_of d1.1
        have h2 : s.get! 2 = 153 := u8_of d1.2.1
        rw [hy, h1, h2, hx, ← t2, ← ByteArray.toList_eq] at hbs
        simp [hbs]
  | [a, b, x], hR, h =>
    have hl := take_short hR (by simp)
    simp only [readR] at h ⊢
    by_cases hab : a = 49 ∧ b = 48
    · obtain ⟨rfl, rfl⟩ := hab
      rw [if_pos ⟨rfl, rfl⟩] at h ⊢
      have e1 : plc ranksL 84 0 = 8 := by decide
      rw [e1] at h ⊢
      by_cases hneg : (8 : Int) < 0 ∨ suF x < 0
      · rw [if_pos hneg] at h; omega
      · rw [if_neg hneg] at h ⊢
        obtain ⟨t, ht, e3, e4⟩ := suF_yes x (by omega)
        obtain ⟨t3, t4, t5⟩ := text_b t ht
        obtain ⟨k3, k4, k5, k6⟩ := text_s t ht
        refine ⟨8 * 4 + t, by omega, by rw [e3]; simp, ?_⟩
        obtain ⟨g, hg, hp0, hd0, hr0⟩ := runes_cons hl
        have d0 := dec_small s 0 hp0 (by omega)
        rw [d0.2, Nat.zero_add] at hr0
        obtain ⟨g2, hg2, hp1, hd1, hr1⟩ := runes_cons hr0
        have d1 := dec_small s 1 hp1 (by omega)
        rw [d1.2, show 1 + 1 = 2 from rfl] at hr1
        obtain ⟨g3, hg3, hp2, hd2, hr2⟩ := runes_cons hr1
        have h0 : s.get! 0 = 49 := u8_of (n := 49) (by omega)
        have h1 : s.get! 1 = 48 := u8_of (n := 48) (by omega)
        have hrk : (rkS (8 * 4 + t)).toList = [84] := by rw [ByteArray.toList_eq]; exact t5
        unfold mtB
        rcases e4 with e4 | e4
        · have d2 := dec_small s 2 hp2 (by omega)
          rw [d2.2] at hr2
          have hsz := runes_nil hr2 (by omega)
          have hx : s.get! 2 = b8 (suitsL.getD t 0) := by rw [e4]; exact u8_of (by omega)
          have hbs := bytes3 s (by omega)
          rw [h0, h1, hx, ← t3, ← ByteArray.toList_eq] at hbs
          simp [hbs, hrk]
        · have d2 := dec_pic s 2 (by omega)
          simp only [Nat.reduceAdd] at d2
          rw [d2.2.2.2.1] at hr2
          have hsz := runes_nil hr2 (by omega)
          have hx : s.get! 4 = b8 (picsL.getD t 0 - 9664) := by rw [e4]; exact u8_of (by omega)
          have hbs := bytes5 s (by omega)
          have h2 : s.get! 2 = 226 := u8_of d2.1
          have h3 : s.get! 3 = 153 := u8_of d2.2.1
          rw [h0, h1, h2, h3, hx, ← t4, ← ByteArray.toList_eq] at hbs
          simp [hbs, hrk]
    · rw [if_neg hab] at h; omega
  | _ :: _ :: _ :: _ :: _, _, h => simp [readR] at h

/-- What the document's own ReadCard answers is what is read of the runes. -/
theorem ref_read (s : ByteArray) : (∃ c : Nat, c < 52 ∧ readR ((runesOf s).take 4) = c ∧ mtB s c = true ∧ ∀ j, j < c → mtB s j = false) ∨ (readR ((runesOf s).take 4) = -1 ∧ ∀ c, c < 52 → mtB s c = false) := by
  by_cases h : 0 ≤ readR ((runesOf s).take 4)
  · obtain ⟨c, hc, e, hm⟩ := read_tells s h
    refine .inl ⟨c, hc, e, hm, fun j hj => ?_⟩
    cases hb : mtB s j with
    | false => rfl
    | true =>
      have := tells_read s j (by omega) hb
      omega
  · have hno : ∀ c, c < 52 → mtB s c = false := fun c hc => by
      cases hb : mtB s c with
      | false => rfl
      | true =>
        have := tells_read s c hc hb
        omega
    refine .inr ⟨?_, hno⟩
    have key : ∀ l, ¬ 0 ≤ readR l → readR l = -1 := by
      intro l
      match l with
      | [] => intro _; rfl
      | [_] => intro _; rfl
      | [y, x] =>
        simp only [readR]
        split
        · intro _; rfl
        · intro h; omega
      | [a, b, x] =>
        simp only [readR]
        split
        · split
          · intro _; rfl
          · intro h; omega
        · intro _; rfl
      | _ :: _ :: _ :: _ :: _ => intro _; rfl
    exact key _ h

end Go.Proofs.Ytdipbbcggccgcaa
