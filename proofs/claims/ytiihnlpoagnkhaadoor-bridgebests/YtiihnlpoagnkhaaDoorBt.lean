/-
  The play of four hands, all seen: what the first side wins. The order of the cards in a hand is no matter; turned by one place the other side wins the rest. No conditions beyond those that each theorem bears.
-/
namespace Go.Proofs.YtiihnlpoagnkhaaDoor

/-- The greatest, or the least. -/
def mxn (b : Bool) (l : List Nat) : Nat := if b then (l.max?).getD 0 else (l.min?).getD 0

theorem mxn_max (l : List Nat) (h : l ≠ []) : mxn true l ∈ l ∧ ∀ x ∈ l, x ≤ mxn true l := by
  cases e : l.max? with
  | none => rw [List.max?_eq_none_iff] at e; exact absurd e h
  | some m =>
    have h2 := List.max?_eq_some_iff.1 e
    simp only [mxn, if_true, e, Option.getD_some]
    exact h2
theorem mxn_min (l : List Nat) (h : l ≠ []) : mxn false l ∈ l ∧ ∀ x ∈ l, mxn false l ≤ x := by
  cases e : l.min? with
  | none => rw [List.min?_eq_none_iff] at e; exact absurd e h
  | some m =>
    have h2 := List.min?_eq_some_iff.1 e
    simp only [mxn, Bool.false_eq_true, if_false, e, Option.getD_some]
    exact h2

theorem mxn_mem (b : Bool) (l : List Nat) (h : l ≠ []) : mxn b l ∈ l := by
  cases b
  · exact (mxn_min l h).1
  · exact (mxn_max l h).1

/-- The same members, the same greatest and least. -/
theorem mxn_same (b : Bool) (l m : List Nat) (h : ∀ x, x ∈ l ↔ x ∈ m) : mxn b l = mxn b m := by
  by_cases e : l = []
  · subst e
    have : m = [] := by
      cases m with
      | nil => rfl
      | cons a m => exact absurd ((h a).2 (by simp)) (by simp)
    rw [this]
  · have e2 : m ≠ [] := by
      intro e2
      subst e2
      cases l with
      | nil => exact e rfl
      | cons a l => exact absurd ((h a).1 (by simp)) (by simp)
    cases b
    · have h1 := mxn_min l e
      have h2 := mxn_min m e2
      have a1 := h1.2 _ ((h _).2 h2.1)
      have a2 := h2.2 _ ((h _).1 h1.1)
      omega
    · have h1 := mxn_max l e
      have h2 := mxn_max m e2
      have a1 := h1.2 _ ((h _).2 h2.1)
      have a2 := h2.2 _ ((h _).1 h1.1)
      omega

/-- What is left of n: the greatest is the least. -/
theorem mxn_dual (n : Nat) (b : Bool) (l : List Nat) (h : l ≠ []) (hn : ∀ x ∈ l, x ≤ n) : mxn (!b) (l.map (fun x => n - x)) = n - mxn b l := by
  have hne : l.map (fun x => n - x) ≠ [] := by simpa using h
  cases b
  · have h1 := mxn_min l h
    have h2 := mxn_max _ hne
    obtain ⟨y, hy, ey⟩ := List.mem_map.1 h2.1
    have a1 := h1.2 y hy
    have a2 := h2.2 (n - mxn false l) (List.mem_map.2 ⟨_, h1.1, rfl⟩)
    have a3 := hn y hy
    have a4 := hn _ h1.1
    show mxn true _ = _
    rw [← ey] at a2 ⊢
    omega
  · have h1 := mxn_max l h
    have h2 := mxn_min _ hne
    obtain ⟨y, hy, ey⟩ := List.mem_map.1 h2.1
    have a1 := h1.2 y hy
    have a2 := h2.2 (n - mxn true l) (List.mem_map.2 ⟨_, h1.1, rfl⟩)
    have a3 := hn y hy
    have a4 := hn _ h1.1
    show mxn false _ = _
    rw [← ey] at a2 ⊢
    omega

/-- The cards that may be put down. -/
def mayL (hand tr : List Nat) : List Nat :=
  if tr = [] then hand else if hand.filter (fun c => c % 4 == tr.getD 0 0 % 4) = [] then hand else hand.filter (fun c => c % 4 == tr.getD 0 0 % 4)

theorem mayL_sub (hand tr : List Nat) : ∀ c ∈ mayL hand tr, c ∈ hand := by
  intro c hc
  unfold mayL at hc
  split at hc
  · exact hc
  · split at hc
    · exact hc
    · exact (List.mem_filter.1 hc).1
theorem mayL_ne (hand tr : List Nat) (h : hand ≠ []) : mayL hand tr ≠ [] := by
  unfold mayL
  split
  · exact h
  · split
    · exact h
    · assumption
theorem mayL_perm {a b : List Nat} (h : a.Perm b) (tr : List Nat) : (mayL a tr).Perm (mayL b tr) := by
  have hf := h.filter (fun c => c % 4 == tr.getD 0 0 % 4)
  unfold mayL
  by_cases e : tr = []
  · rw [if_pos e, if_pos e]; exact h
  · rw [if_neg e, if_neg e]
    by_cases e2 : a.filter (fun c => c % 4 == tr.getD 0 0 % 4) = []
    · have e3 : b.filter (fun c => c % 4 == tr.getD 0 0 % 4) = [] := by rw [e2] at hf; exact hf.nil_eq.symm
      rw [if_pos e2, if_pos e3]; exact h
    · have e3 : ¬ b.filter (fun c => c % 4 == tr.getD 0 0 % 4) = [] := by
        intro e3; rw [e3] at hf; exact e2 hf.eq_nil
      rw [if_neg e2, if_neg e3]; exact hf

/-- One for the first side. -/
def fst1 (p : Nat) : Nat := if p % 2 = 0 then 1 else 0

/-- What the first side wins from here on, f steps deep; win tells who takes a trick. -/
def bt (win : List Nat → Nat) : Nat → (Nat → List Nat) → Nat → List Nat → Nat
  | 0, _, _, _ => 0
  | f + 1, H, ld, tr =>
    if tr.length = 4 then fst1 ((ld + win tr) % 4) + (if H ((ld + win tr) % 4) = [] then 0 else bt win f H ((ld + win tr) % 4) [])
    else mxn (decide ((ld + tr.length) % 4 % 2 = 0)) ((mayL (H ((ld + tr.length) % 4)) tr).map (fun c => bt win f (fun p => if p = (ld + tr.length) % 4 then (H p).erase c else H p) ld (tr ++ [c])))

/-- The order of the cards in the hands is no matter. -/
theorem bt_perm (win : List Nat → Nat) : ∀ (f : Nat) (H G : Nat → List Nat) (ld : Nat) (tr : List Nat), (∀ p, p < 4 → (H p).Perm (G p)) → bt win f H ld tr = bt win f G ld tr := by
  intro f
  induction f with
  | zero => intro H G ld tr _; rfl
  | succ f ih =>
    intro H G ld tr h
    rw [bt, bt]
    by_cases e : tr.length = 4
    · rw [if_pos e, if_pos e]
      have hp := h ((ld + win tr) % 4) (Nat.mod_lt _ (by omega))
      have he : H ((ld + win tr) % 4) = [] ↔ G ((ld + win tr) % 4) = [] := ⟨fun e => by rw [e] at hp; exact hp.nil_eq.symm, fun e => by rw [e] at hp; exact hp.eq_nil⟩
      rw [ih H G _ [] h]
      simp only [he]
    · rw [if_neg e, if_neg e]
      have hp := h ((ld + tr.length) % 4) (Nat.mod_lt _ (by omega))
      apply mxn_same
      intro x
      have hm := mayL_perm hp tr
      have hv : ∀ c, bt win f (fun p => if p = (ld + tr.length) % 4 then (H p).erase c else H p) ld (tr ++ [c]) = bt win f (fun p => if p = (ld + tr.length) % 4 then (G p).erase c else G p) ld (tr ++ [c]) := by
        intro c
        apply ih
        intro p hp4
        by_cases ep : p = (ld + tr.length) % 4
        · simp only [if_pos ep]; exact (h p hp4).erase c
        · simp only [if_neg ep]; exact h p hp4
      simp only [List.mem_map]
      constructor
      · rintro ⟨c, hc, rfl⟩; exact ⟨c, hm.mem_iff.1 hc, (hv c).symm⟩
      · rintro ⟨c, hc, rfl⟩; exact ⟨c, hm.mem_iff.2 hc, hv c⟩

/-- Each hand has so many cards: those who have put one down, one less. -/
def Even4 (H : Nat → List Nat) (ld k n : Nat) : Prop := ∀ p, p < 4 → (H p).length = if (p + 4 - ld) % 4 < k then n - 1 else n

theorem even_step (H : Nat → List Nat) (ld k n c : Nat) (hl : ld < 4) (hk : k < 4) (_hn : 1 ≤ n) (h : Even4 H ld k n) (hc : c ∈ H ((ld + k) % 4)) : Even4 (fun p => if p = (ld + k) % 4 then (H p).erase c else H p) ld (k + 1) n := by
  intro p hp
  have h1 := h p hp
  by_cases e : p = (ld + k) % 4
  · simp only [if_pos e]
    rw [← e] at hc
    rw [List.length_erase_of_mem hc, h1, if_neg (by omega), if_pos (by omega)]
  · simp only [if_neg e]
    rw [h1]
    by_cases e2 : (p + 4 - ld) % 4 < k
    · rw [if_pos e2, if_pos (by omega)]
    · rw [if_neg e2, if_neg (by omega)]

/-- Turned by one place: the other side wins the rest. And it is no more than the tricks that there are. -/
theorem bt_turn (win : List Nat → Nat) (hw : ∀ t, win t < 4) : ∀ (f : Nat) (H : Nat → List Nat) (ld n : Nat) (tr : List Nat), ld < 4 → 1 ≤ n → tr.length ≤ 4 → Even4 H ld tr.length n → 5 * (n - 1) + (5 - tr.length) ≤ f →
    bt win f H ld tr ≤ n ∧ bt win f (fun p => H ((p + 3) % 4)) ((ld + 1) % 4) tr = n - bt win f H ld tr := by
  intro f
  induction f with
  | zero => intro H ld n tr _ hn ht _ hf; omega
  | succ f ih =>
    intro H ld n tr hl hn ht hE hf
    rw [bt, bt]
    by_cases e : tr.length = 4
    · rw [if_pos e, if_pos e]
      have hw4 := hw tr
      obtain ⟨w, hwe⟩ : ∃ w, (ld + win tr) % 4 = w := ⟨_, rfl⟩
      have hwl : w < 4 := by omega
      have e1 : ((ld + 1) % 4 + win tr) % 4 = (w + 1) % 4 := by omega
      have e2 : ((w + 1) % 4 + 3) % 4 = w := by omega
      rw [hwe, e1, e2]
      have hlen := hE w hwl
      rw [e, if_pos (by omega)] at hlen
      have hfs : fst1 ((w + 1) % 4) = 1 - fst1 w := by
        unfold fst1
        split <;> split <;> omega
      have hf1 : fst1 w ≤ 1 := by unfold fst1; split <;> omega
      by_cases h0 : H w = []
      · rw [if_pos h0, if_pos h0]
        rw [h0, List.length_nil] at hlen
        have : n = 1 := by omega
        subst this
        refine ⟨by omega, ?_⟩
        rw [hfs]; omega
      · rw [if_neg h0, if_neg h0]
        have hpos : 1 ≤ n - 1 := by
          cases hh : H w with
          | nil => exact absurd hh h0
          | cons a l => rw [hh, List.length_cons] at hlen; omega
        have hE2 : Even4 H w 0 (n - 1) := by
          intro p hp
          have := hE p hp
          rw [e, if_pos (by omega)] at this
          rw [this, if_neg (by omega)]
        obtain ⟨i1, i2⟩ := ih H w (n - 1) [] hwl hpos (by simp) (by simpa using hE2) (by simp; omega)
        rw [i2, hfs]
        omega
    · rw [if_neg e, if_neg e]
      have hk : tr.length < 4 := by omega
      generalize hkk : tr.length = k at *
      obtain ⟨w, hwe⟩ : ∃ w, (ld + k) % 4 = w := ⟨_, rfl⟩
      have hwl : w < 4 := by omega
      have e1 : ((ld + 1) % 4 + k) % 4 = (w + 1) % 4 := by omega
      have e2 : ((w + 1) % 4 + 3) % 4 = w := by omega
      rw [hwe, e1, e2]
      have hlen := hE w hwl
      rw [if_neg (by omega)] at hlen
      have hne : H w ≠ [] := by intro h; rw [h, List.length_nil] at hlen; omega
      have hmne := mayL_ne (H w) tr hne
      have key : ∀ c ∈ mayL (H w) tr, bt win f (fun p => if p = w then (H p).erase c else H p) ld (tr ++ [c]) ≤ n ∧ bt win f (fun p => if p = (w + 1) % 4 then (H ((p + 3) % 4)).erase c else H ((p + 3) % 4)) ((ld + 1) % 4) (tr ++ [c]) = n - bt win f (fun p => if p = w then (H p).erase c else H p) ld (tr ++ [c]) := by
        intro c hc
        have hstep := even_step H ld k n c hl hk hn hE (by rw [hwe]; exact mayL_sub _ _ c hc)
        rw [hwe] at hstep
        have hlk : (tr ++ [c]).length = k + 1 := by rw [List.length_append, hkk]; rfl
        obtain ⟨i1, i2⟩ := ih (fun p => if p = w then (H p).erase c else H p) ld n (tr ++ [c]) hl hn (by rw [hlk]; omega) (by rw [hlk]; exact hstep) (by rw [hlk]; omega)
        refine ⟨i1, ?_⟩
        rw [← i2]
        apply bt_perm
        intro p hp
        by_cases ep : p = (w + 1) % 4
        · rw [if_pos ep, if_pos (by omega)]
        · rw [if_neg ep, if_neg (by omega)]
      have hmap : (mayL (H w) tr).map (fun c => bt win f (fun p => if p = (w + 1) % 4 then (H ((p + 3) % 4)).erase c else H ((p + 3) % 4)) ((ld + 1) % 4) (tr ++ [c])) = ((mayL (H w) tr).map (fun c => bt win f (fun p => if p = w then (H p).erase c else H p) ld (tr ++ [c]))).map (fun x => n - x) := by
        rw [List.map_map]
        apply List.map_congr_left
        intro c hc
        exact (key c hc).2
      have hbd : ∀ x ∈ (mayL (H w) tr).map (fun c => bt win f (fun p => if p = w then (H p).erase c else H p) ld (tr ++ [c])), x ≤ n := by
        intro x hx
        obtain ⟨c, hc, rfl⟩ := List.mem_map.1 hx
        exact (key c hc).1
      have hne2 : (mayL (H w) tr).map (fun c => bt win f (fun p => if p = w then (H p).erase c else H p) ld (tr ++ [c])) ≠ [] := by simpa using hmne
      have hpar : decide ((w + 1) % 4 % 2 = 0) = !decide (w % 2 = 0) := by
        rw [Bool.eq_iff_iff]; simp; omega
      rw [hmap, hpar, mxn_dual n _ _ hne2 hbd]
      exact ⟨hbd _ (mxn_mem _ _ hne2), rfl⟩

/-- Deep enough is deep enough. -/
theorem bt_deep (win : List Nat → Nat) : ∀ (f : Nat) (H : Nat → List Nat) (ld n : Nat) (tr : List Nat) (g : Nat), ld < 4 → 1 ≤ n → tr.length ≤ 4 → Even4 H ld tr.length n → 5 * (n - 1) + (5 - tr.length) ≤ f → f ≤ g → bt win g H ld tr = bt win f H ld tr := by
  intro f
  induction f with
  | zero => intro H ld n tr g _ hn ht _ hf; omega
  | succ f ih =>
    intro H ld n tr g hl hn ht hE hf hg
    obtain ⟨g, rfl⟩ : ∃ g', g = g' + 1 := ⟨g - 1, by omega⟩
    rw [bt, bt]
    by_cases e : tr.length = 4
    · rw [if_pos e, if_pos e]
      obtain ⟨w, hwe⟩ : ∃ w, (ld + win tr) % 4 = w := ⟨_, rfl⟩
      have hwl : w < 4 := by omega
      rw [hwe]
      have hlen := hE w hwl
      rw [e, if_pos (by omega)] at hlen
      by_cases h0 : H w = []
      · rw [if_pos h0, if_pos h0]
      · rw [if_neg h0, if_neg h0]
        have hpos : 1 ≤ n - 1 := by
          cases hh : H w with
          | nil => exact absurd hh h0
          | cons a l => rw [hh, List.length_cons] at hlen; omega
        have hE2 : Even4 H w 0 (n - 1) := by
          intro p hp
          have := hE p hp
          rw [e, if_pos (by omega)] at this
          rw [this, if_neg (by omega)]
        rw [ih H w (n - 1) [] g hwl hpos (by simp) (by simpa using hE2) (by simp; omega) (by omega)]
    · rw [if_neg e, if_neg e]
      have hk : tr.length < 4 := by omega
      congr 1
      apply List.map_congr_left
      intro c hc
      have hstep := even_step H ld tr.length n c hl hk hn hE (mayL_sub _ _ c hc)
      have hlk : (tr ++ [c]).length = tr.length + 1 := by simp
      exact ih _ ld n (tr ++ [c]) g hl hn (by rw [hlk]; omega) (by rw [hlk]; exact hstep) (by rw [hlk]; omega) (by omega)

/-- With tricks to play no player who is to play has an empty hand. -/
theorem even_ne (H : Nat → List Nat) (ld k n : Nat) (hl : ld < 4) (hk : k < 4) (hn : 1 ≤ n) (h : Even4 H ld k n) : H ((ld + k) % 4) ≠ [] := by
  intro e
  have := h ((ld + k) % 4) (Nat.mod_lt _ (by omega))
  rw [e, if_neg (by omega), List.length_nil] at this
  omega

/-- Out of a list by its place is out of it by name, the order apart. -/
theorem out_perm (l : List Nat) (i : Nat) (h : i < l.length) : (l.take i ++ l.drop (i + 1)).Perm (l.erase (l.getD i 0)) := by
  have e : l.getD i 0 = l[i] := by simp [List.getD, h]
  rw [e]
  have h1 : l.Perm (l[i] :: (l.take i ++ l.drop (i + 1))) := by
    have h2 : l = l.take i ++ l[i] :: l.drop (i + 1) := by
      rw [← List.drop_eq_getElem_cons h, List.take_append_drop]
    exact (List.Perm.of_eq h2).trans List.perm_middle
  have h3 := h1.erase l[i]
  rw [List.erase_cons_head] at h3
  exact h3.symm

theorem mxn_one (b : Bool) (x : Nat) : mxn b [x] = x := by
  have := mxn_mem b [x] (by simp)
  simpa using this

/-- One more: it is taken where it is better. -/
theorem mxn_snoc (b : Bool) (l : List Nat) (h : l ≠ []) (x : Nat) : mxn b (l ++ [x]) = if (b = true ∧ mxn b l < x) ∨ (b = false ∧ x < mxn b l) then x else mxn b l := by
  have hne : l ++ [x] ≠ [] := by simp
  cases b
  · have h1 := mxn_min l h
    have h2 := mxn_min _ hne
    have a1 := h2.2 _ (List.mem_append_left [x] h1.1)
    have a2 := h2.2 x (by simp)
    have a4 : mxn false l ≤ mxn false (l ++ [x]) ∨ mxn false (l ++ [x]) = x := by
      rcases List.mem_append.1 h2.1 with h3 | h3
      · exact .inl (h1.2 _ h3)
      · exact .inr (by simpa using h3)
    by_cases hx : x < mxn false l
    · rw [if_pos (.inr ⟨rfl, hx⟩)]; omega
    · rw [if_neg (by rintro (⟨h, _⟩ | ⟨_, h⟩); exact absurd h (by simp); exact hx h)]; omega
  · have h1 := mxn_max l h
    have h2 := mxn_max _ hne
    have a1 := h2.2 _ (List.mem_append_left [x] h1.1)
    have a2 := h2.2 x (by simp)
    have a4 : mxn true (l ++ [x]) ≤ mxn true l ∨ mxn true (l ++ [x]) = x := by
      rcases List.mem_append.1 h2.1 with h3 | h3
      · exact .inl (h1.2 _ h3)
      · exact .inr (by simpa using h3)
    by_cases hx : mxn true l < x
    · rw [if_pos (.inl ⟨rfl, hx⟩)]; omega
    · rw [if_neg (by rintro (⟨_, h⟩ | ⟨h, _⟩); exact hx h; exact absurd h (by simp))]; omega

end Go.Proofs.YtiihnlpoagnkhaaDoor
