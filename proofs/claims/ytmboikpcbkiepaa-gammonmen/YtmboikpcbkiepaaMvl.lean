/-
  MovesOf as lists. No conditions beyond those that each theorem bears.
-/
import Derived.Test.YtmboikpcbkiepaaStl
namespace Go.Proofs.Ytmboikpcbkiepaa
open Go.RowKit

theorem mem_putL {L : List Bo} {b x : Bo} (h : x ∈ putL L b) : x ∈ L ∨ x = b := by
  unfold putL at h
  split at h
  · exact Or.inl h
  · rcases List.mem_append.1 h with h | h
    · rcases List.mem_append.1 h with h | h
      · exact Or.inl (List.mem_of_mem_take h)
      · exact Or.inr (List.mem_singleton.1 h)
    · exact Or.inl (List.mem_of_mem_drop h)

abbrev MayL (t : Nat) (L : List Bo) : Prop := ∀ x, x ∈ L → mayP x.P x.W x.B t

theorem MayL.at {t : Nat} {L : List Bo} (h : MayL t L) : ∀ i, i < L.length → mayP (L.getD i b0).P (L.getD i b0).W (L.getD i b0).B t := fun i hi => h _ (by simp [List.getD, hi])

theorem stF_may {t p f : Nat} (ht : t ≤ 1) (hp : 1 ≤ p ∧ p ≤ 6) (hf : f ≤ 24) {out : List Bo} {x : Bo} (ho : MayL t out) (hx : mayP x.P x.W x.B t) : MayL t (stF t p out x f) := by
  unfold stF
  split
  · rename_i r hr
    intro y hy
    rcases mem_putL hy with h | rfl
    · exact ho y h
    · exact may_step ht hf hp hx hr
  · exact ho

theorem stX_may {t p : Nat} (ht : t ≤ 1) (hp : 1 ≤ p ∧ p ≤ 6) {out : List Bo} {x : Bo} (ho : MayL t out) (hx : mayP x.P x.W x.B t) : ∀ f, f ≤ 25 → MayL t (stX t p out x f)
  | 0, _ => ho
  | f + 1, hf => by rw [stX]; exact stF_may ht hp (by omega) (stX_may ht hp ho hx f (by omega)) hx

theorem stL_may {t p : Nat} (ht : t ≤ 1) (hp : 1 ≤ p ∧ p ≤ 6) {L : List Bo} (hL : MayL t L) : ∀ i, i ≤ L.length → MayL t (stL t p L i)
  | 0, _ => fun x hx => by cases hx
  | i + 1, hi => by rw [stL]; exact stX_may ht hp (stL_may ht hp hL i (by omega)) (hL.at i (by omega)) 25 (Nat.le_refl _)

/-- All boards that come of boards by one step. -/
def stA (t p : Nat) (L : List Bo) : List Bo := stL t p L L.length

theorem stA_may {t p : Nat} (ht : t ≤ 1) (hp : 1 ≤ p ∧ p ≤ 6) {L : List Bo} (hL : MayL t L) : MayL t (stA t p L) := stL_may ht hp hL _ (Nat.le_refl _)
theorem stA_len (t p : Nat) (L : List Bo) : (stA t p L).length ≤ 25 * L.length := stL_len t p L _

/-- A step as often as there is one, at most k times. -/
def repB (t p : Nat) (L : List Bo) : Nat → List Bo
  | 0 => L
  | k + 1 => if stA t p (repB t p L k) = [] then repB t p L k else stA t p (repB t p L k)

theorem repB_may {t p : Nat} (ht : t ≤ 1) (hp : 1 ≤ p ∧ p ≤ 6) {L : List Bo} (hL : MayL t L) : ∀ k, MayL t (repB t p L k)
  | 0 => hL
  | k + 1 => by
    rw [repB]
    split
    · exact repB_may ht hp hL k
    · exact stA_may ht hp (repB_may ht hp hL k)

theorem repB_len {t p : Nat} {L : List Bo} (hL : L.length ≤ 1) : ∀ k, (repB t p L k).length ≤ 25 ^ k
  | 0 => by rw [repB]; simpa using hL
  | k + 1 => by
    have ih := repB_len (t := t) (p := p) hL k
    have h2 := stA_len t p (repB t p L k)
    rw [repB, Nat.pow_succ]
    split <;> omega

/-- Once there is none there is none. -/
theorem repB_stop {t p : Nat} {L : List Bo} {k : Nat} (h : stA t p (repB t p L k) = []) : ∀ j, repB t p L (k + j) = repB t p L k
  | 0 => rfl
  | j + 1 => by
    have ih := repB_stop h j
    rw [← Nat.add_assoc, repB, ih, if_pos h]

/-- One list put into another. -/
def putA (A M : List Bo) : Nat → List Bo
  | 0 => A
  | i + 1 => putL (putA A M i) (M.getD i b0)

theorem putA_len (A M : List Bo) : ∀ i, (putA A M i).length ≤ A.length + i
  | 0 => Nat.le_refl _
  | i + 1 => by
    have := putA_len A M i
    have := putL_len (putA A M i) (M.getD i b0)
    rw [putA]
    omega

def bothB (t g l : Nat) (S : List Bo) : List Bo := putA (stA t l (stA t g S)) (stA t g (stA t l S)) (stA t g (stA t l S)).length

/-- The best that two unlike numbers allow. -/
def twoB (t g l : Nat) (S : List Bo) : List Bo := if bothB t g l S ≠ [] then bothB t g l S else if stA t g S ≠ [] then stA t g S else if stA t l S ≠ [] then stA t l S else S

def mvB (t x y : Nat) (S : List Bo) : List Bo := if x = y then repB t x S 4 else twoB t (max x y) (min x y) S

theorem Gm.setT {w : World} {b : Nat} {a : Option Addr} {n c : Nat} {W B T : Int} (h : Gm w b a n c W B T) (x : Int) : Gm (w.setCell ⟨b, 3, none⟩ (.int .i64 x)) b a n c W B x := by
  have h' : w.heap[b]? = _ := h
  simp [Gm, World.setCell, Array.getElem?_modify, h']

theorem Bs.single (w : World) (g c : Nat) (b : Bo) (T : Int) (h : Rd w (some ⟨g, 0, none⟩) 26 c b.P) : Bs 0 (w.alloc (.cells (gmA (some ⟨g, 0, none⟩) 26 c b.W b.B T) 24)) T (.slice (some ⟨w.heap.size, 0, none⟩) 1 1) [b] := by
  refine ⟨bv g c b T, World.ownsRow_lit w (gmA (some ⟨g, 0, none⟩) 26 c b.W b.B T) 1 (Nat.zero_le _) (by unfold maxLen; omega) rfl, ⟨g, c, [], by simp, h.mono ((Below.refl _ w).alloc (Nat.le_refl _) _), rfl⟩, fun h => by cases h⟩

theorem stA_any (v : Value) (L : List Bo) (t p : Nat) (ht : t ≤ 1) (hp : 1 ≤ p ∧ p ≤ 6) (w : World) (hL : Bs 0 w t v L) (hn : L.length ≤ 300000) (hM : MayL t L) :
    Calls Try.prog 43 #[v, .int .i64 p] w fun e w' => ∃ a c, e = .returned (.slice a (stA t p L).length c) ∧ Bs 0 w' t (.slice a (stA t p L).length c) (stA t p L) ∧ Below w.heap.size w w' := by
  refine (stepped_any v L t p ht hp w hL hn hM.at).mono ?_
  rintro e w' ⟨v', rfl, hB, hb⟩
  obtain ⟨a, c, rfl, -, -, -⟩ := hB.form
  exact ⟨a, c, rfl, hB, hb⟩

end Go.Proofs.Ytmboikpcbkiepaa
