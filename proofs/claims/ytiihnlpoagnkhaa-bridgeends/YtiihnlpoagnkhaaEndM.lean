/-
  What gameroomkeep.ints and picked answer; scores grow with the tricks; an auction that is over ends at the next call. No conditions beyond those that each theorem bears.
-/
import Derived.Test.YtiihnlpoagnkhaaSc6
import Derived.Test.YtiihnlpoagnkhaaAuC
namespace Go.Proofs.Ytiihnlpoagnkhaa
open Go.RowKit

theorem ret_intK {x y : Int} (h : x = y) : Ending.returned (.int .i64 x) = .returned (.int .i64 y) := by rw [h]

set_option maxHeartbeats 400000 in
theorem kints_own (a : Option Addr) (n c : Nat) (zs : List Int) (w : World) (h : Rd w a n c zs) (hr : n * 8 ≤ 140737488351232) :
    Calls Try.prog 18 #[.slice a n c] w fun e w' => ∃ a' c', e = .returned (.slice a' n c') ∧ w'.ownsRow w.heap.size 3 1 (.slice a' n c') n (zs.map (Value.int .i64)) ∧ Below w.heap.size w w' := by
  obtain ⟨i0, hi, hz0, hz1, hz2⟩ := info_parts Try.info3
  cases a with
  | none =>
    obtain rfl := h.nil rfl
    obtain rfl : n = 0 := by have := h.cap; omega
    go_enter Try.func18, Try.ntmps18
    go_wp2_with (at_builtin; refine wpList_append_own_none rfl _ _ 22 rfl w.heap.size 3 i0 1 Try.underlying22 hi _ 0 [] rfl (World.ownsRow_nil _ _ _ _) rfl ?_)
    go_ret
    have hz : zs = [] := List.eq_nil_of_length_eq_zero h.len
    subst hz
    exact ⟨_, _, rfl, World.ownsRow_nil _ _ _ _, Below.refl _ _⟩
  | some ad =>
    have hcell : ∀ j u, (zs.map (Value.int .i64))[j]? = some u → w.cell? (ad.add j) = some u := by
      intro j u hu
      have hj : j < n := by have := (List.getElem?_eq_some_iff.1 hu).1; simpa [h.len] using this
      obtain ⟨b, off, he, hc⟩ := h.cells (by omega)
      obtain rfl := Option.some.inj he
      rw [Addr.add_lit, hc j hj]
      have hz : j < zs.length := by rw [h.len]; exact hj
      simpa [List.getD, hz] using hu
    have hl : (zs.map (Value.int .i64)).length = n * 1 := by simp [h.len]
    have hone := ints_oneCell .i64 zs
    have hmax : 0 + n ≤ maxLen := by have := h.cap; have := h.max; omega
    have hle : Hid (zs.length = n) := h.len
    go_enter Try.func18, Try.ntmps18
    go_wp2_with (at_builtin; refine wpList_append_own _ rfl _ _ 22 rfl w.heap.size 3 i0 (.int .i64 0) 1 8 Try.underlying22 hi hz0 hz1 hz2 rfl (by decide) _ 0 [] rfl (World.ownsRow_nil _ _ _ _) ad n c (zs.map (Value.int .i64)) rfl hl hcell hone hmax (by omega) (Nat.le_refl _) ?_)
    intro v' w1 hown hgrow _
    have hex : ∃ a' c', v' = .slice a' n c' := by
      rcases hown.2 with ⟨hv, h0⟩ | ⟨g, cap, cur, hv, _⟩
      · exact ⟨none, 0, by rw [hv]; simp; omega⟩
      · exact ⟨_, _, hv⟩
    obtain ⟨a', c', rfl⟩ := hex
    have B : Below w.heap.size w w1 := (Below.refl _ _).grown hgrow (Nat.le_refl _) (fun k hk => by simp [Value.ownBlock] at hk)
    clear hgrow
    have HO := hide hown
    clear hown
    go_wp2
    go_ret
    exact ⟨_, _, rfl, HO.out, B⟩

/-- Which of m things a raw number speaks of. -/
def pk (n : Int) (m : Nat) : Nat := (if n < 0 then -(n + 1) else n).toNat % m

theorem pk_lt (n : Int) (m : Nat) (h : 0 < m) : pk n m < m := Nat.mod_lt _ h

set_option maxHeartbeats 400000 in
theorem picked_any (n : Int) (m : Nat) (w : World) (h1 : -9223372036854775808 ≤ n) (h2 : n ≤ 9223372036854775807) (hm : 1 ≤ m) (hm2 : m ≤ 479001600) :
    Calls Try.prog 19 #[.int .i64 n, .int .i64 m] w fun e w' => e = .returned (.int .i64 (pk n m : Nat)) ∧ w' = w := by
  have hm' : ¬ (m : Int) = 0 := by omega
  by_cases hn : n < 0
  · obtain ⟨q, hq⟩ := Int.eq_ofNat_of_zero_le (show 0 ≤ -(n + 1) by omega)
    have HP : Hid (pk n m = q % m) := hide (by unfold pk; rw [if_pos hn, hq]; rfl)
    have e0 : n = -(q : Int) - 1 := by omega
    have hq2 : (q : Int) ≤ 9223372036854775807 := by omega
    subst e0
    have hmod : (q : Int) % (m : Int) = ((q % m : Nat) : Int) := by simp
    have hneg : -(-(q : Int) - 1 + 1) = (q : Int) := by omega
    generalize q % m = R at *
    clear hq
    go_enter Try.func19, Try.ntmps19
    go_wp2
    go_ret
    refine ⟨ret_intK ?_, rfl⟩
    rw [HP.out, ← hmod]
  · obtain ⟨q, rfl⟩ := Int.eq_ofNat_of_zero_le (show 0 ≤ n by omega)
    have HP : Hid (pk (q : Int) m = q % m) := hide (by unfold pk; rw [if_neg hn]; rfl)
    have hmod : (q : Int) % (m : Int) = ((q % m : Nat) : Int) := by simp
    generalize q % m = R at *
    go_enter Try.func19, Try.ntmps19
    go_wp2
    go_ret
    refine ⟨?_, rfl⟩
    rw [HP.out]
    rfl

theorem lossN_pos (i : Nat) (v : Bool) : 0 < lossN i v := by
  unfold lossN eiN; split <;> (try split) <;> (try split) <;> omega

theorem failN_lt (j d : Nat) (v : Bool) : failN j d v < failN (j + 1) d v := by
  by_cases hd : d = 0
  · subst hd
    rw [failN0_succ]
    have : 0 < eiN v 100 50 := by cases v <;> simp [eiN]
    omega
  · rw [failN_succ j d v hd]
    have := Nat.mul_pos (lossN_pos j v) (Nat.pos_of_ne_zero hd)
    omega

theorem abvN_pos (s d : Nat) (v : Bool) : 0 < abvN s d v := by
  unfold abvN
  split
  · unfold trkN; split <;> omega
  · rename_i h
    exact Nat.mul_pos (by cases v <;> simp [eiN]) (Nat.pos_of_ne_zero h)

theorem scN_lt (l s d t : Nat) (v : Bool) : scN l s d v t < scN l s d v (t + 1) := by
  unfold scN
  by_cases h1 : t + 1 < l + 6
  · rw [if_pos (by omega), if_pos h1]
    obtain ⟨f, hf⟩ : ∃ f, l + 6 - (t + 1) = f := ⟨_, rfl⟩
    rw [hf, show l + 6 - t = f + 1 by omega]
    have := failN_lt f d v
    omega
  · rw [if_neg h1]
    by_cases h2 : t < l + 6
    · rw [if_pos h2, show l + 6 - t = 0 + 1 by omega]
      have := failN_lt 0 d v
      omega
    · rw [if_neg h2, show t + 1 - l - 6 = (t - l - 6) + 1 by omega, Nat.add_mul]
      have := abvN_pos s d v
      omega

theorem auRun_append (xs ys : List Int) : ∀ i s, auRun (xs ++ ys) i s = if (auRun xs i s).2 = 0 then auRun ys (i + xs.length) (auRun xs i s).1 else auRun xs i s := by
  induction xs with
  | nil => intro i s; simp [auRun]
  | cons c t ih =>
    intro i s
    rw [List.cons_append, auRun, auRun]
    by_cases h : s.flt c (i % 4) = 0
    · rw [if_pos h, if_pos h, ih, List.length_cons, show i + 1 + t.length = i + (t.length + 1) by omega]
    · rw [if_neg h, if_neg h, if_neg h]

/-- Behind an auction that is over a pass may not be called. -/
theorem auc_over {zs : List Int} {l s d k : Int} (h : AucOut zs l s d k 0) {l' s' d' k' E : Int} (g : AucOut (zs ++ [0]) l' s' d' k' E) : E = 9 := by
  have h2 : (auRun zs 0 ⟨0, 0, 0, 0⟩).2 = 0 := by
    by_cases e : (auRun zs 0 ⟨0, 0, 0, 0⟩).2 = 0
    · exact e
    · have := h.bad e; omega
  have ho : (auRun zs 0 ⟨0, 0, 0, 0⟩).1.over = true := by
    cases e : (auRun zs 0 ⟨0, 0, 0, 0⟩).1.over with
    | true => rfl
    | false => have := h.more h2 e; omega
  have hn : auRun (zs ++ [0]) 0 ⟨0, 0, 0, 0⟩ = ((auRun zs 0 ⟨0, 0, 0, 0⟩).1, 9) := by
    rw [auRun_append, if_pos h2, auRun]
    have hf : (auRun zs 0 ⟨0, 0, 0, 0⟩).1.flt 0 ((0 + zs.length) % 4) = 9 := by
      rw [AS.flt, if_neg (by omega), if_pos ho]
    rw [if_neg (by rw [hf]; omega), hf]
  have := g.bad (by rw [hn]; simp)
  rw [hn] at this
  exact this.2.2.2.2

/-- What an auction that went well has told. -/
theorem auRun_inv (zs : List Int) : ∀ (k : Nat) (s : AS), k ≤ zs.length → AInv zs k s → (auRun (zs.drop k) k s).2 = 0 → AInv zs zs.length (auRun (zs.drop k) k s).1 := by
  intro k
  induction hn : zs.length - k generalizing k with
  | zero =>
    intro s hk hI h
    have e : k = zs.length := by omega
    subst e
    rw [List.drop_eq_nil_of_le (Nat.le_refl _)]
    exact hI
  | succ m ih =>
    intro s hk hI h
    have hlt : k < zs.length := by omega
    rw [auRun_drop zs k hlt s] at h ⊢
    by_cases hf : s.flt (zs.getD k 0) (k % 4) = 0
    · rw [if_pos hf] at h ⊢
      exact ih (k + 1) (by omega) _ (by omega) (hI.step hlt hf) h
    · rw [if_neg hf] at h
      exact absurd h hf

theorem auc_ct {zs : List Int} {l s d k : Int} (h : AucOut zs l s d k 0) : isCt l s d k = true := by
  have h2 : (auRun zs 0 ⟨0, 0, 0, 0⟩).2 = 0 := by
    by_cases e : (auRun zs 0 ⟨0, 0, 0, 0⟩).2 = 0
    · exact e
    · have := h.bad e; omega
  have ho : (auRun zs 0 ⟨0, 0, 0, 0⟩).1.over = true := by
    cases e : (auRun zs 0 ⟨0, 0, 0, 0⟩).1.over with
    | true => rfl
    | false => have := h.more h2 e; omega
  have hb : (auRun zs 0 ⟨0, 0, 0, 0⟩).1.bid ≠ 0 := fun e => by have := h.none h2 ho e; omega
  have hI := auRun_inv zs 0 ⟨0, 0, 0, 0⟩ (Nat.zero_le _) (AInv.start zs) (by simpa using h2)
  rw [List.drop_zero] at hI
  obtain ⟨a1, a2, a3, _, i, _, a5⟩ := h.ok h2 ho hb
  obtain ⟨_, g2, g3, _⟩ := hI.some hb
  have g4 := hI.dbl
  simp only [isCt, decide_eq_true_eq]
  omega

/-- The example: 1 no trump, of player 1. -/
theorem auc_one {l s d k E : Int} (h : AucOut [0, 7, 0, 0, 0] l s d k E) : l = 1 ∧ s = 4 ∧ k = 1 ∧ E = 0 := by
  have hr : auRun [0, 7, 0, 0, 0] 0 ⟨0, 0, 0, 0⟩ = (⟨7, 1, 0, 3⟩, 0) := by rfl
  obtain ⟨a1, a2, _, a4, i, hi, a5⟩ := h.ok (by rw [hr]) (by rw [hr]; rfl) (by rw [hr]; simp)
  rw [hr] at a1 a2 hi
  have h1 : IsFirst [0, 7, 0, 0, 0] 7 1 1 := ⟨by simp, ⟨by simp, by simp, rfl⟩, fun j hj hh => by
    obtain rfl : j = 0 := by omega
    have := hh.1
    simp at this⟩
  have := hi.unique h1
  subst this
  refine ⟨by rw [a1]; rfl, by rw [a2]; rfl, by rw [a5]; rfl, a4⟩

end Go.Proofs.Ytiihnlpoagnkhaa
