/-
  What the play holds: the deal, what was found, and how they are kept. No conditions beyond those that each theorem bears.
-/
import Derived.Test.YtiihnlpoagnkhaaDoorMemo
import Derived.Test.YtiihnlpoagnkhaaDoorAllow
import Derived.Test.YtiihnlpoagnkhaaDoorBt
import Derived.Laws.BitsAllLaws
namespace Go.Proofs.YtiihnlpoagnkhaaDoor
open Go.RowKit

/-- Of the blocks that there were, those that X does not name are as they were. -/
structure Keeps (X : Nat → Prop) (w w' : World) : Prop where
  os : w'.os = w.os
  tape : w'.tape = w.tape
  output : w'.output = w.output
  size : w.heap.size ≤ w'.heap.size
  block : ∀ k, k < w.heap.size → ¬ X k → w'.heap[k]? = w.heap[k]?

theorem Keeps.refl (X : Nat → Prop) (w : World) : Keeps X w w := ⟨rfl, rfl, rfl, Nat.le_refl _, fun _ _ _ => rfl⟩

theorem Keeps.trans {X : Nat → Prop} {a b c : World} (h : Keeps X a b) (k : Keeps X b c) : Keeps X a c :=
  ⟨k.os.trans h.os, k.tape.trans h.tape, k.output.trans h.output, Nat.le_trans h.size k.size, fun i hi hx => (k.block i (Nat.lt_of_lt_of_le hi h.size) hx).trans (h.block i hi hx)⟩

theorem Keeps.mono {X Y : Nat → Prop} {a b : World} (h : Keeps X a b) (hs : ∀ k, k < a.heap.size → X k → Y k) : Keeps Y a b :=
  ⟨h.os, h.tape, h.output, h.size, fun i hi hx => h.block i hi (fun k => hx (hs i hi k))⟩

theorem Keeps.of_below {B : Nat} {a b : World} (h : Below B a b) : Keeps (fun k => B ≤ k) a b :=
  ⟨h.os, h.tape, h.output, h.size, fun i _ hx => h.block i (Nat.lt_of_not_le hx)⟩

theorem Keeps.below {X : Nat → Prop} {B : Nat} {a b : World} (h : Keeps X a b) (hB : B ≤ a.heap.size) (hX : ∀ k, k < B → ¬ X k) : Below B a b :=
  ⟨h.os, h.tape, h.output, h.size, fun i hi => h.block i (Nat.lt_of_lt_of_le hi hB) (hX i hi)⟩

theorem Keeps.of_all {X : Nat → Prop} {a b : World} (h : Below a.heap.size a b) : Keeps X a b :=
  ⟨h.os, h.tape, h.output, h.size, fun i hi _ => h.block i hi⟩

theorem Keeps.drew {X : Nat → Prop} {a b : World} (h : Keeps X a b) : Keeps X a b.drew := ⟨h.os, h.tape, h.output, h.size, h.block⟩

theorem Keeps.alloc {X : Nat → Prop} {a b : World} (h : Keeps X a b) (o : Obj) : Keeps X a (b.alloc o) :=
  h.trans (Keeps.of_all ((Below.refl _ b).alloc (Nat.le_refl _) o))

theorem Keeps.setCell {X : Nat → Prop} {a b : World} (h : Keeps X a b) {p : Addr} (hp : X p.block) (u : Value) : Keeps X a (b.setCell p u) :=
  h.trans ⟨rfl, rfl, rfl, by simp [World.setCell], fun k _ hx => Below.heap_setCell _ _ _ _ (fun e => hx (e ▸ hp))⟩

theorem Keeps.cell {X : Nat → Prop} {w w' : World} (h : Keeps X w w') {p : Addr} {v : Value} (hc : w.cell? p = some v) (hp : ¬ X p.block) : w'.cell? p = some v :=
  (World.cell?_of_block (w := w) (h.block p.block (World.block_lt_of_cell? w _ hc) hp)).trans hc

theorem Rd.keeps {X : Nat → Prop} {w w' : World} {a n c zs} (h : Rd w a n c zs) (hb : Keeps X w w') (hX : ∀ b off, a = some ⟨b, off, none⟩ → ¬ X b) : Rd w' a n c zs := by
  refine ⟨h.len, h.cap, h.max, h.nil, fun hn => ?_⟩
  obtain ⟨b, off, rfl, hc⟩ := h.cells hn
  exact ⟨b, off, rfl, fun i hi => hb.cell (hc i hi) (hX b off rfl)⟩


/-- The cards of a player in a set. -/
def HF (m : Nat) (hold : Nat → Nat) : Nat → List Nat := fun p => heldL m hold p 52

def winF (s : Int) : List Nat → Nat := fun tr => wn tr s 4

theorem winF_lt (s : Int) (tr : List Nat) : winF s tr < 4 := wn_le tr s 4 (by omega)

/-- What may be found. -/
def Good (hold : Nat → Nat) (s : Int) (l d v : Nat) : Prop := ∀ n, 1 ≤ n → d < 4 → Even4 (HF l hold) d 0 n → v = bt (winF s) (5 * n) (HF l hold) d []

/-- The play's memory. -/
structure Env (w : World) (db mb : Nat) (hold : Nat → Nat) (s : Int) : Prop where
  tab : Tab w
  hld : Hld w db hold
  str : w.cell? ⟨db, 52, none⟩ = some (.int .i64 s)
  fnd : w.cell? ⟨db, 53, none⟩ = some (.map (some mb))
  mp : Mp w mb (Good hold s)

theorem Env.cell_ne {w : World} {db mb : Nat} {hold : Nat → Nat} {s : Int} (h : Env w db mb hold s) {p : Addr} {v : Value} (hc : w.cell? p = some v) : p.block ≠ mb := by
  intro e
  obtain ⟨es, clock, hb, _⟩ := h.mp
  obtain ⟨b, o, sp⟩ := p
  simp only at e
  subst e
  cases sp <;> simp [World.cell?, hb] at hc

theorem Env.keeps {w w' : World} {db mb : Nat} {hold : Nat → Nat} {s : Int} (h : Env w db mb hold s) {X : Nat → Prop} (hk : Keeps X w w') (h0 : ¬ X 0) (hd : ¬ X db) (hm : Mp w' mb (Good hold s)) : Env w' db mb hold s :=
  ⟨fun i hi => hk.cell (h.tab i hi) h0, fun c hc => hk.cell (h.hld c hc) hd, hk.cell h.str hd, hk.cell h.fnd hd, hm⟩

theorem Env.below {w w' : World} {db mb : Nat} {hold : Nat → Nat} {s : Int} (h : Env w db mb hold s) (hk : Below w.heap.size w w') : Env w' db mb hold s :=
  h.keeps (X := fun _ => False) (Keeps.of_all hk) (fun e => e) (fun e => e) (h.mp.of_block (hk.block mb h.mp.lt))

/-- The cards put down, in memory with room for four. -/
def Put (w : World) (pb : Nat) (tr : List Nat) : Prop := w.ownsRow 0 3 1 (.slice (some ⟨pb, 0, none⟩) tr.length 4) tr.length ((toI tr).map (Value.int .i64))

theorem Put.lt {w : World} {pb : Nat} {tr : List Nat} (h : Put w pb tr) : pb < w.heap.size := (World.ownsRow.lt h pb rfl).2

theorem Put.keeps {w w' : World} {pb : Nat} {tr : List Nat} (h : Put w pb tr) {X : Nat → Prop} (hk : Keeps X w w') (hx : ¬ X pb) : Put w' pb tr := by
  refine ⟨h.1, ?_⟩
  rcases h.2 with ⟨hv, h0⟩ | ⟨g, cap, cur, hv, hb, hg, r⟩
  · simp at hv
  · simp only [Value.slice.injEq, Option.some.injEq, Addr.mk.injEq, and_true, true_and] at hv
    obtain ⟨rfl, rfl⟩ := hv
    exact Or.inr ⟨pb, 4, cur, rfl, hb, (hk.block pb (Array.getElem?_eq_some_iff.1 hg).1 hx).trans hg, r⟩

theorem Put.shrink {w : World} {pb : Nat} {tr : List Nat} {c : Nat} (h : Put w pb (tr ++ [c])) : Put w pb tr := by
  refine ⟨by simp [toI], ?_⟩
  rcases h.2 with ⟨hv, h0⟩ | ⟨g, cap, cur, hv, hb, hg, hnc, hcm, hcs, ht⟩
  · simp at hv
  · simp only [Value.slice.injEq, Option.some.injEq, Addr.mk.injEq, and_true, true_and] at hv
    obtain ⟨rfl, rfl⟩ := hv
    have hl : (tr ++ [c]).length = tr.length + 1 := by simp
    refine Or.inr ⟨pb, 4, cur, rfl, hb, hg, by omega, hcm, hcs, ?_⟩
    have h2 := congrArg (List.take (tr.length * 1)) ht
    rw [List.take_take, hl, show min (tr.length * 1) ((tr.length + 1) * 1) = tr.length * 1 by omega] at h2
    rw [h2]
    simp [toI]

theorem Put.rd {w : World} {pb : Nat} {tr : List Nat} (h : Put w pb tr) : Rd w (some ⟨pb, 0, none⟩) tr.length 4 (toI tr) := Rd.of_own h

/-- A row of its own is kept. -/
theorem own_keepsX {w w' : World} {base : Nat} {v : Value} {n : Nat} {xs : List Value} (h : w.ownsRow base 3 1 v n xs) {X : Nat → Prop} (hk : Keeps X w w') (hx : ∀ b, base ≤ b → ¬ X b) : w'.ownsRow base 3 1 v n xs := by
  refine ⟨h.1, ?_⟩
  rcases h.2 with h0 | ⟨g, cap, cur, hv, hb, hg, r⟩
  · exact Or.inl h0
  · exact Or.inr ⟨g, cap, cur, hv, hb, (hk.block g (Array.getElem?_eq_some_iff.1 hg).1 (hx g hb)).trans hg, r⟩

/-- A card taken out of a set. -/
def rm (m c : Nat) : Nat := m &&& (18446744073709551615 - 2 ^ c)

theorem rm_bit (m c : Nat) (hm : m < 18446744073709551616) (hc : c < 52) (j : Nat) : (rm m c).testBit j = (m.testBit j && decide (j ≠ c)) := by
  unfold rm
  rw [Nat.testBit_and]
  by_cases hj : j < 64
  · have h1 : (2 : Nat) ^ c < 2 ^ 64 := Nat.pow_lt_pow_right (by omega) (by omega)
    have h2 : (18446744073709551615 : Nat) - 2 ^ c = 2 ^ 64 - (2 ^ c + 1) := by omega
    rw [h2, Nat.testBit_two_pow_sub_succ (by omega)]
    simp [hj, Nat.testBit_two_pow]
    rw [show decide (c = j) = decide (j = c) from by rw [Bool.eq_iff_iff]; simp [eq_comm]]
  · have : m.testBit j = false := Nat.testBit_lt_two_pow (Nat.lt_of_lt_of_le hm (by
      have : (2 : Nat) ^ 64 ≤ 2 ^ j := Nat.pow_le_pow_right (by omega) (by omega)
      exact this))
    simp [this]

theorem rm_lt (m c : Nat) (hm : m < 18446744073709551616) : rm m c < 18446744073709551616 := Nat.lt_of_le_of_lt Nat.and_le_left hm

theorem HF_rm (m c : Nat) (hold : Nat → Nat) (hm : m < 18446744073709551616) (p : Nat) (hc : c ∈ HF m hold p) : HF (rm m c) hold = fun q => if q = p then (HF m hold q).erase c else HF m hold q := by
  have hc' : c < 52 ∧ m.testBit c = true ∧ hold c = p := by
    simpa [HF, heldL, List.mem_filter] using hc
  funext q
  have e := held_out m (rm m c) c hold q 52 (rm_bit m c hm hc'.1)
  show heldL (rm m c) hold q 52 = _
  rw [e]
  by_cases hq : q = p
  · rw [if_pos hq]; rfl
  · rw [if_neg hq]
    refine List.erase_of_not_mem ?_
    intro h
    have : hold c = q := by
      have : c < 52 ∧ m.testBit c = true ∧ hold c = q := by simpa [heldL, List.mem_filter] using h
      exact this.2.2
    exact hq (by rw [← this, hc'.2.2])

/-- What may be put down, said in two ways. -/
theorem allow_may (L tr : List Nat) : allowL L (if tr = [] then -1 else ((tr.getD 0 0 : Nat) : Int)) = mayL L tr := by
  have hf : ∀ d, followL L d = L.filter (fun c => c % 4 == d % 4) := by
    intro d
    unfold followL
    congr 1
    funext x
    rw [Bool.eq_iff_iff]
    simp [offP]
  unfold allowL mayL
  by_cases h : tr = []
  · rw [if_pos h, if_pos h, if_pos rfl]
  · rw [if_neg h, if_neg h, if_neg (by omega), Int.toNat_natCast, hf]

theorem fold_max (l : List Int) : ∀ a : Int, (∀ x ∈ a :: l, x ≤ l.foldl max a) ∧ l.foldl max a ∈ a :: l := by
  induction l with
  | nil => intro a; simp
  | cons y l ih =>
    intro a
    obtain ⟨h1, h2⟩ := ih (max a y)
    rw [List.foldl_cons]
    refine ⟨fun x hx => ?_, ?_⟩
    · have h3 := h1 (max a y) (by simp)
      rcases List.mem_cons.1 hx with rfl | hx
      · omega
      rcases List.mem_cons.1 hx with rfl | hx
      · omega
      · exact h1 x (by simp [hx])
    · rcases List.mem_cons.1 h2 with h2 | h2
      · rw [h2]
        by_cases e : a ≤ y
        · rw [Int.max_eq_right e]; simp
        · rw [Int.max_eq_left (by omega)]; simp
      · simp [h2]

theorem fold_min (l : List Int) : ∀ a : Int, (∀ x ∈ a :: l, l.foldl min a ≤ x) ∧ l.foldl min a ∈ a :: l := by
  induction l with
  | nil => intro a; simp
  | cons y l ih =>
    intro a
    obtain ⟨h1, h2⟩ := ih (min a y)
    rw [List.foldl_cons]
    refine ⟨fun x hx => ?_, ?_⟩
    · have h3 := h1 (min a y) (by simp)
      rcases List.mem_cons.1 hx with rfl | hx
      · omega
      rcases List.mem_cons.1 hx with rfl | hx
      · omega
      · exact h1 x (by simp [hx])
    · rcases List.mem_cons.1 h2 with h2 | h2
      · rw [h2]
        by_cases e : a ≤ y
        · rw [Int.min_eq_left e]; simp
        · rw [Int.min_eq_right (by omega)]; simp
      · simp [h2]

theorem max_mxn (l : List Nat) (h : l ≠ []) : Lib.maxOf (toI l) = ((mxn true l : Nat) : Int) := by
  obtain ⟨a, r, rfl⟩ := List.exists_cons_of_ne_nil h
  have e : Lib.maxOf (toI (a :: r)) = (toI r).foldl max (a : Int) := by
    show ((a : Int) :: toI r).foldl max (a : Int) = _
    rw [List.foldl_cons, Int.max_self]
  rw [e]
  obtain ⟨h1, h2⟩ := fold_max (toI r) (a : Int)
  obtain ⟨g1, g2⟩ := mxn_max (a :: r) h
  have k1 := h1 ((mxn true (a :: r) : Nat) : Int) (by
    rcases List.mem_cons.1 g1 with g | g
    · rw [g]; simp
    · exact List.mem_cons_of_mem _ (List.mem_map.2 ⟨_, g, rfl⟩))
  have k2 : ∃ x ∈ a :: r, (toI r).foldl max (a : Int) = (x : Int) := by
    rcases List.mem_cons.1 h2 with g | g
    · exact ⟨a, by simp, g⟩
    · obtain ⟨x, hx, e2⟩ := List.mem_map.1 g
      exact ⟨x, by simp [hx], e2.symm⟩
  obtain ⟨x, hx, e2⟩ := k2
  have := g2 x hx
  omega

theorem min_mxn (l : List Nat) (h : l ≠ []) : Lib.minOf (toI l) = ((mxn false l : Nat) : Int) := by
  obtain ⟨a, r, rfl⟩ := List.exists_cons_of_ne_nil h
  have e : Lib.minOf (toI (a :: r)) = (toI r).foldl min (a : Int) := by
    show ((a : Int) :: toI r).foldl min (a : Int) = _
    rw [List.foldl_cons, Int.min_self]
  rw [e]
  obtain ⟨h1, h2⟩ := fold_min (toI r) (a : Int)
  obtain ⟨g1, g2⟩ := mxn_min (a :: r) h
  have k1 := h1 ((mxn false (a :: r) : Nat) : Int) (by
    rcases List.mem_cons.1 g1 with g | g
    · rw [g]; simp
    · exact List.mem_cons_of_mem _ (List.mem_map.2 ⟨_, g, rfl⟩))
  have k2 : ∃ x ∈ a :: r, (toI r).foldl min (a : Int) = (x : Int) := by
    rcases List.mem_cons.1 h2 with g | g
    · exact ⟨a, by simp, g⟩
    · obtain ⟨x, hx, e2⟩ := List.mem_map.1 g
      exact ⟨x, by simp [hx], e2.symm⟩
  obtain ⟨x, hx, e2⟩ := k2
  have := g2 x hx
  omega

set_option maxHeartbeats 400000 in
theorem isFirstSide_any (p : Nat) (w : World) : Calls Tryd.prog 34 #[.int .i64 p] w fun e w' => e = .returned (.bool (decide (p % 2 = 0))) ∧ w' = w := by
  have h1 : Int.tmod (p : Int) 2 = ((p % 2 : Nat) : Int) := by rw [Int.tmod_eq_emod_of_nonneg (by omega)]; omega
  obtain ⟨q, hq⟩ : ∃ q, p % 2 = q := ⟨_, rfl⟩
  rw [hq] at h1 ⊢
  clear hq
  go_enter Tryd.func34, Tryd.ntmps34
  go_wp2
  go_ret
  refine ⟨ret_b ?_, rfl⟩
  rw [Bool.eq_iff_iff]
  simp
  try omega

end Go.Proofs.YtiihnlpoagnkhaaDoor
