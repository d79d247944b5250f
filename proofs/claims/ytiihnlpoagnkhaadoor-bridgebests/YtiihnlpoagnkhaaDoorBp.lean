/-
  What bestPlay answers for four hands. No conditions beyond those that each theorem bears.
-/
import Derived.Test.YtiihnlpoagnkhaaDoorPl2
namespace Go.Proofs.YtiihnlpoagnkhaaDoor
open Go.RowKit

/-- Four hands, in memory. -/
structure HS (w : World) (b n : Nat) (Z : Nat → List Nat) : Prop where
  cell : ∀ i, i < 4 → ∃ a cc, w.cell? ⟨b, i, none⟩ = some (.slice a n cc) ∧ Rd w a n cc (toI (Z i))

theorem HS.below {w w' : World} {b n : Nat} {Z : Nat → List Nat} (h : HS w b n Z) (hb : Below w.heap.size w w') : HS w' b n Z :=
  ⟨fun i hi => by
    obtain ⟨a, cc, h1, h2⟩ := h.cell i hi
    exact ⟨a, cc, (hb.cell (World.block_lt_of_cell? w _ h1)).trans h1, h2.mono hb⟩⟩

/-- The deal's memory: who holds which card, the strain, what was found. -/
def dealC (hs : List Nat) (s : Int) (mb : Nat) : List Value := (toI hs).map (Value.int .i64) ++ [.int .i64 s, .map (some mb)]

def Dl (w : World) (db : Nat) (hs : List Nat) (s : Int) (mb : Nat) : Prop := w.heap[db]? = some (.cells (dealC hs s mb).toArray 48 (0, 0))

theorem Dl.cell {w : World} {db : Nat} {hs : List Nat} {s : Int} {mb : Nat} (h : Dl w db hs s mb) (i : Nat) (hi : i < hs.length) : w.cell? ⟨db, i, none⟩ = some (.int .i64 (hs.getD i 0 : Nat)) := by
  have h' : w.heap[db]? = _ := h
  have hl : i < ((toI hs).map (Value.int .i64)).length := by simp [toI_length, hi]
  simp only [World.cell?, h', dealC, List.getElem?_toArray]
  rw [List.getElem?_append_left hl]
  simp [toI, List.getD, hi]

theorem Dl.rest {w : World} {db : Nat} {hs : List Nat} {s : Int} {mb : Nat} (h : Dl w db hs s mb) (hl : hs.length = 52) : w.cell? ⟨db, 52, none⟩ = some (.int .i64 s) ∧ w.cell? ⟨db, 53, none⟩ = some (.map (some mb)) := by
  have h' : w.heap[db]? = _ := h
  have h52 : ((toI hs).map (Value.int .i64)).length = 52 := by simp [toI_length, hl]
  constructor
  · simp only [World.cell?, h', dealC, List.getElem?_toArray]
    rw [List.getElem?_append_right (by omega), h52]
    rfl
  · simp only [World.cell?, h', dealC, List.getElem?_toArray]
    rw [List.getElem?_append_right (by omega), h52]
    rfl

theorem Dl.frozen {w : World} {db : Nat} {hs : List Nat} {s : Int} {mb : Nat} (h : Dl w db hs s mb) (i : Nat) : w.frozen? ⟨db, i, none⟩ = false := by
  have h' : w.heap[db]? = _ := h
  simp [World.frozen?, h']

theorem Dl.set {w : World} {db : Nat} {hs : List Nat} {s : Int} {mb : Nat} (h : Dl w db hs s mb) (i x : Nat) (hi : i < hs.length) : Dl (w.setCell ⟨db, i, none⟩ (.int .i64 (x : Int))) db (hs.set i x) s mb := by
  have h' : w.heap[db]? = _ := h
  have hl : i < ((toI hs).map (Value.int .i64)).length := by simp [toI_length, hi]
  have e : dealC (hs.set i x) s mb = (dealC hs s mb).set i (.int .i64 (x : Int)) := by
    unfold dealC
    rw [List.set_append_left _ _ hl]
    simp [toI, List.map_set]
  simp [Dl, World.setCell, Array.getElem?_modify, h', e]

theorem Dl.keeps {w w' : World} {db : Nat} {hs : List Nat} {s : Int} {mb : Nat} (h : Dl w db hs s mb) {X : Nat → Prop} (hk : Keeps X w w') (hx : ¬ X db) : Dl w' db hs s mb :=
  (hk.block db (Array.getElem?_eq_some_iff.1 h).1 hx).trans h

theorem Keeps.set1 (w : World) (b i : Nat) (v : Value) : Keeps (fun k => k = b) w (w.setCell ⟨b, i, none⟩ v) :=
  Keeps.setCell (X := fun k => k = b) (Keeps.refl _ w) (p := ⟨b, i, none⟩) rfl v

theorem St.setL {w : World} {b m d : Nat} (h : St w b m d) (x : Nat) : St (w.setCell ⟨b, 0, none⟩ (.int .u64 (x : Int))) b x d := by
  have h' : w.heap[b]? = _ := h
  simp [St, World.setCell, Array.getElem?_modify, h']

theorem St.frozen {w : World} {b m d : Nat} (h : St w b m d) (i : Nat) : w.frozen? ⟨b, i, none⟩ = false := by
  have h' : w.heap[b]? = _ := h
  simp [World.frozen?, h']

theorem Mp.mono {w : World} {b : Nat} {G H : Nat → Nat → Nat → Prop} (h : Mp w b G) (hg : ∀ l d v, G l d v → H l d v) : Mp w b H := by
  obtain ⟨es, clock, hb, r⟩ := h
  exact ⟨es, clock, hb, fun x hx => by obtain ⟨l, d, v, h1, h2, h3⟩ := r x hx; exact ⟨l, d, v, h1, h2, hg _ _ _ h3⟩⟩

/-- The cards met so far. -/
def Met (Z : Nat → List Nat) (p j x : Nat) : Prop := (∃ q, q < p ∧ x ∈ Z q) ∨ x ∈ (Z p).take j

/-- What the loops hold. -/
structure Lp (Z : Nat → List Nat) (p j m : Nat) (hs : List Nat) : Prop where
  lt : m < 18446744073709551616
  bit : ∀ x, m.testBit x = true ↔ Met Z p j x
  len : hs.length = 52
  four : ∀ x, hs.getD x 0 < 4
  old : ∀ q, q < p → ∀ x ∈ Z q, hs.getD x 0 = q
  now : ∀ x ∈ (Z p).take j, hs.getD x 0 = p

/-- All cards are unlike. -/
structure Un (Z : Nat → List Nat) : Prop where
  lt : ∀ q, q < 4 → ∀ x ∈ Z q, x < 52
  dup : ∀ q, q < 4 → (Z q).Nodup
  one : ∀ q r, q < 4 → r < 4 → q ≠ r → ∀ x, x ∈ Z q → x ∈ Z r → False

theorem or_lt (m c : Nat) (hm : m < 18446744073709551616) (hc : c < 52) : m ||| 2 ^ c < 18446744073709551616 := by
  have h1 : m < 2 ^ 64 := hm
  have h2 : (2 : Nat) ^ c < 2 ^ 64 := Nat.pow_lt_pow_right (by omega) (by omega)
  exact Nat.or_lt_two_pow h1 h2

theorem Lp.step {Z : Nat → List Nat} {p j m : Nat} {hs : List Nat} (h : Lp Z p j m hs) (U : Un Z) (hp : p < 4) (c : Nat) (hj : j < (Z p).length) (hc : (Z p).getD j 0 = c) : Lp Z p (j + 1) (m ||| 2 ^ c) (hs.set c p) := by
  have hcm : c ∈ Z p := by rw [← hc]; simp [List.getD, hj]
  have hc52 := U.lt p hp c hcm
  have ht : (Z p).take (j + 1) = (Z p).take j ++ [c] := by
    rw [List.take_succ_eq_append_getElem hj]
    congr 1
    rw [← hc]
    simp [List.getD, hj]
  have hnot : c ∉ (Z p).take j := by
    have := U.dup p hp
    rw [← List.take_append_drop (j + 1) (Z p), ht, List.append_assoc] at this
    have h2 := List.nodup_append.1 this
    intro hin
    exact h2.2.2 c hin c (by simp) rfl
  have gs : ∀ x, (hs.set c p).getD x 0 = if x = c then p else hs.getD x 0 := fun x => getD_setN hs c x p (by rw [h.len]; exact hc52)
  refine ⟨or_lt m c h.lt hc52, fun x => ?_, by simp [h.len], fun x => ?_, fun q hq x hx => ?_, fun x hx => ?_⟩
  · rw [Nat.testBit_or, Nat.testBit_two_pow]
    have := h.bit x
    unfold Met at this ⊢
    rw [ht]
    constructor
    · intro e
      rcases Bool.or_eq_true_iff.1 e with e | e
      · rcases this.1 e with e2 | e2
        · exact Or.inl e2
        · exact Or.inr (List.mem_append_left _ e2)
      · have : c = x := by simpa using e
        exact Or.inr (List.mem_append_right _ (by simp [this]))
    · rintro (e | e)
      · rw [this.2 (Or.inl e)]; rfl
      · rcases List.mem_append.1 e with e | e
        · rw [this.2 (Or.inr e)]; rfl
        · have : x = c := by simpa using e
          simp [this]
  · rw [gs]
    split
    · exact hp
    · exact h.four x
  · rw [gs, if_neg (fun e : x = c => U.one p q hp (by omega) (by omega) c hcm (by rw [← e]; exact hx)), h.old q hq x hx]
  · rw [ht] at hx
    rw [gs]
    rcases List.mem_append.1 hx with hx | hx
    · rw [if_neg (fun e : x = c => hnot (by rw [← e]; exact hx)), h.now x hx]
    · have : x = c := by simpa using hx
      rw [if_pos this]

theorem Lp.next {Z : Nat → List Nat} {p j m : Nat} {hs : List Nat} (h : Lp Z p j m hs) (hj : j = (Z p).length) : Lp Z (p + 1) 0 m hs := by
  have ht : (Z p).take j = Z p := List.take_of_length_le (by omega)
  refine ⟨h.lt, fun x => ?_, h.len, h.four, fun q hq x hx => ?_, fun x hx => by simp at hx⟩
  · rw [h.bit x]
    unfold Met
    rw [ht]
    constructor
    · rintro (⟨q, hq, e⟩ | e)
      · exact Or.inl ⟨q, by omega, e⟩
      · exact Or.inl ⟨p, by omega, e⟩
    · rintro (⟨q, hq, e⟩ | e)
      · by_cases hqp : q = p
        · subst hqp; exact Or.inr e
        · exact Or.inl ⟨q, by omega, e⟩
      · simp at e
  · by_cases hqp : q = p
    · subst hqp; exact h.now x (by rw [ht]; exact hx)
    · exact h.old q (by omega) x hx

theorem Lp.start (Z : Nat → List Nat) : Lp Z 0 0 0 (List.replicate 52 0) :=
  ⟨by omega, fun x => by simp [Met], by simp, fun x => by rw [rep0]; omega, fun q hq => by omega, fun x hx => by simp at hx⟩

theorem Lp.fin {Z : Nat → List Nat} {m : Nat} {hs : List Nat} (h : Lp Z 4 0 m hs) (U : Un Z) : Mk m (fun c => hs.getD c 0) ∧ ∀ p, p < 4 → (Z p).Perm (HF m (fun c => hs.getD c 0) p) := by
  have hb : ∀ x, m.testBit x = true ↔ ∃ q, q < 4 ∧ x ∈ Z q := fun x => by
    rw [h.bit x]
    unfold Met
    simp
  refine ⟨⟨h.lt, fun j hj => ?_, fun c _ => h.four c⟩, fun p hp => ?_⟩
  · obtain ⟨q, hq, hx⟩ := (hb j).1 hj
    exact U.lt q hq j hx
  · refine held_perm m _ p 52 (Z p) (U.dup p hp) (fun c => ?_)
    constructor
    · intro hc
      exact ⟨U.lt p hp c hc, (hb c).2 ⟨p, hp, hc⟩, h.old p hp c hc⟩
    · rintro ⟨_, hc, he⟩
      obtain ⟨q, hq, hx⟩ := (hb c).1 hc
      have := h.old q hq c hx
      rw [he] at this
      rw [this]
      exact hx

theorem bits_or_rm (m c : Nat) (hm : m < 18446744073709551616) (hc : c < 52) : bits BinOp.or IntKind.u64 (m : Int) (2 ^ c) = ((m ||| 2 ^ c : Nat) : Int) := by
  have e : ((2 : Int) ^ c) = ((2 ^ c : Nat) : Int) := by push_cast; rfl
  rw [e, u64_or_nat m (2 ^ c) hm (pow_small c hc)]

theorem size48 : (Tryd.prog.info? 48).map (·.size) = some 54 := by kernel_rfl

theorem dealC_length (hs : List Nat) (s : Int) (mb : Nat) (h : hs.length = 52) : (dealC hs s mb).length = 54 := by simp [dealC, toI_length, h]

theorem dealC_one (hs : List Nat) (s : Int) (mb : Nat) : (dealC hs s mb).toArray.all (·.oneCell') = true := by simp [dealC, Value.oneCell']

theorem wpList_store_dl {ops : Array Oper} {rest : List Oper} {o : Oper} {a : Act} {w : World} {Q : Exit → Act → World → Prop} (hgd : o.guard = none) (x y : Operand) (ho : o.op = .store 48 x y)
    (db : Nat) (hs : List Nat) (s : Int) (mb : Nat) (hl : hs.length = 52) (old : Array Value) (hold : old.size = 54) (hx : a.eval x = .pointer (some ⟨db, 0, none⟩)) (hy : a.eval y = .agg (dealC hs s mb).toArray) (hb : w.heap[db]? = some (.cells old 48 (0, 0)))
    (h : ∀ w', Dl w' db hs s mb → Keeps (fun k => k = db) w w' → wpList Tryd.prog ops Q rest (a.put o.dst undef) w') : wpList Tryd.prog ops Q (o :: rest) a w := by
  refine wpList_plain hgd fun _ hK => ?_
  refine wp_store_row 48 x y ho db (dealC hs s mb).toArray hx hy 48 old hb (by rw [List.size_toArray, dealC_length hs s mb hl]; exact size48) (by rw [hold, List.size_toArray, dealC_length hs s mb hl]) (dealC_one hs s mb) ?_
  refine hK _ _ (h _ ?_ ?_)
  · simp [Dl, World.setRow, Array.getElem?_modify, hb]
  · exact ⟨rfl, rfl, rfl, by simp [World.setRow], fun k _ hk => by simp [World.setRow, Array.getElem?_modify, show ¬ db = k from fun e => hk e.symm]⟩

set_option maxRecDepth 100000 in
set_option maxHeartbeats 4000000 in
theorem bestPlay_any (b c n : Nat) (Z : Nat → List Nat) (U : Un Z) (hn1 : 1 ≤ n) (hn : n ≤ 13) (s : Int) (ld : Nat) (hld : ld < 4) (hZ : ∀ i, i < 4 → (Z i).length = n) (w : World) (hT : Tab w) (h : HS w b n Z) :
    Calls Tryd.prog 15 #[.slice (some ⟨b, 0, none⟩) 4 c, .int .i64 s, .int .i64 ld] w fun e w' => ∃ m hold, Mk m hold ∧ (∀ p, p < 4 → (Z p).Perm (HF m hold p)) ∧ e = .returned (.int .i64 (TrV m hold s ld n : Nat)) ∧ Below w.heap.size w w' := by
  have HU := hide U
  have HZ := hide hZ
  have HT := hide hT
  have HH := hide h
  have hbs : b < w.heap.size := by obtain ⟨a, cc, h1, -⟩ := h.cell 0 (by omega); exact World.block_lt_of_cell? w _ h1
  have h0s : 0 < w.heap.size := World.block_lt_of_cell? w _ (hT 0 (by omega))
  clear U hZ hT h
  go_enter Tryd.func15, Tryd.ntmps15
  have MM : (Instr.makeMap 46 none).run Tryd.prog w = .ok (.map (some w.heap.size)) (w.alloc (.map #[] 0)) := rfl
  have KD : ((w.alloc (.map #[] 0)).alloc (Obj.cells #[.int .i64 0, .int .i64 0, .int .i64 0, .int .i64 0, .int .i64 0, .int .i64 0, .int .i64 0, .int .i64 0, .int .i64 0, .int .i64 0, .int .i64 0, .int .i64 0, .int .i64 0, .int .i64 0, .int .i64 0, .int .i64 0, .int .i64 0, .int .i64 0, .int .i64 0, .int .i64 0, .int .i64 0, .int .i64 0, .int .i64 0, .int .i64 0, .int .i64 0, .int .i64 0, .int .i64 0, .int .i64 0, .int .i64 0, .int .i64 0, .int .i64 0, .int .i64 0, .int .i64 0, .int .i64 0, .int .i64 0, .int .i64 0, .int .i64 0, .int .i64 0, .int .i64 0, .int .i64 0, .int .i64 0, .int .i64 0, .int .i64 0, .int .i64 0, .int .i64 0, .int .i64 0, .int .i64 0, .int .i64 0, .int .i64 0, .int .i64 0, .int .i64 0, .int .i64 0, .int .i64 0, .map none] 48)).heap[w.heap.size + 1]? = some (.cells #[.int .i64 0, .int .i64 0, .int .i64 0, .int .i64 0, .int .i64 0, .int .i64 0, .int .i64 0, .int .i64 0, .int .i64 0, .int .i64 0, .int .i64 0, .int .i64 0, .int .i64 0, .int .i64 0, .int .i64 0, .int .i64 0, .int .i64 0, .int .i64 0, .int .i64 0, .int .i64 0, .int .i64 0, .int .i64 0, .int .i64 0, .int .i64 0, .int .i64 0, .int .i64 0, .int .i64 0, .int .i64 0, .int .i64 0, .int .i64 0, .int .i64 0, .int .i64 0, .int .i64 0, .int .i64 0, .int .i64 0, .int .i64 0, .int .i64 0, .int .i64 0, .int .i64 0, .int .i64 0, .int .i64 0, .int .i64 0, .int .i64 0, .int .i64 0, .int .i64 0, .int .i64 0, .int .i64 0, .int .i64 0, .int .i64 0, .int .i64 0, .int .i64 0, .int .i64 0, .int .i64 0, .map none] 48 (0, 0)) := by
    have := heap_alloc_new (w.alloc (.map #[] 0)) (Obj.cells #[.int .i64 0, .int .i64 0, .int .i64 0, .int .i64 0, .int .i64 0, .int .i64 0, .int .i64 0, .int .i64 0, .int .i64 0, .int .i64 0, .int .i64 0, .int .i64 0, .int .i64 0, .int .i64 0, .int .i64 0, .int .i64 0, .int .i64 0, .int .i64 0, .int .i64 0, .int .i64 0, .int .i64 0, .int .i64 0, .int .i64 0, .int .i64 0, .int .i64 0, .int .i64 0, .int .i64 0, .int .i64 0, .int .i64 0, .int .i64 0, .int .i64 0, .int .i64 0, .int .i64 0, .int .i64 0, .int .i64 0, .int .i64 0, .int .i64 0, .int .i64 0, .int .i64 0, .int .i64 0, .int .i64 0, .int .i64 0, .int .i64 0, .int .i64 0, .int .i64 0, .int .i64 0, .int .i64 0, .int .i64 0, .int .i64 0, .int .i64 0, .int .i64 0, .int .i64 0, .int .i64 0, .map none] 48)
    rwa [World.size_alloc] at this
  go_upto_region 2 with (refine wpList_store_dl rfl (.tmp 7) (.tmp 15) rfl (w.heap.size + 1) (List.replicate 52 0) s w.heap.size (by simp) _ rfl rfl rfl KD ?_; intro w1 D1 K1)
  have M0 : Mp w1 w.heap.size (fun _ _ _ => False) := by
    refine Mp.of_block (Mp.made w _) ?_
    rw [K1.block w.heap.size (by simp; omega) (by omega), Below.heap_alloc _ _ _ (by simp)]
  have B1 : Below w.heap.size w w1 := (((Below.refl w.heap.size w).alloc (Nat.le_refl _) _).alloc (by simp) _).trans ((K1.mono (Y := fun k => w.heap.size ≤ k) (fun k _ e => by omega)).below (by simp; omega) (fun k hk e => by omega))
  have hs1 : w.heap.size + 1 < w1.heap.size := (Array.getElem?_eq_some_iff.1 D1).1
  clear MM KD K1
  go_upto_region 3 with fail
  obtain ⟨sb, hsb⟩ : ∃ sb, w1.heap.size = sb := ⟨_, rfl⟩
  have B12 : Below w1.heap.size w1 (w1.alloc (Obj.cells #[.int .u64 0, .int .i64 (ld : Int)] 51)) := (Below.refl _ _).alloc (Nat.le_refl _) _
  have S2 : St (w1.alloc (Obj.cells #[.int .u64 0, .int .i64 (ld : Int)] 51)) sb 0 ld := by rw [← hsb]; exact St.new w1 0 ld
  have D2 := D1.keeps (X := fun _ => False) (Keeps.of_all B12) (fun e => e)
  have M2 := M0.of_block (B12.block w.heap.size M0.lt)
  have B2 := B1.trans (B12.mono B1.size)
  rw [hsb] at hs1
  rw [hsb]
  generalize w1.alloc (Obj.cells #[.int .u64 0, .int .i64 (ld : Int)] 51) = w2 at *
  have HS2 := hide S2
  have HD2 := hide D2
  have HM2 := hide M2
  have HB2 := hide B2
  clear S2 D2 M2 B2 B12 D1 M0 B1 hsb
  go_wp2_with fail
  go_loopw [20] (fun v wr => ∃ (p m : Nat) (hs : List Nat), v = .int .i64 p ∧ p ≤ 4 ∧ Hid (Lp Z p 0 m hs) ∧ Hid (Dl wr (w.heap.size + 1) hs s w.heap.size) ∧ Hid (St wr sb m ld) ∧ Hid (Mp wr w.heap.size (fun _ _ _ => False)) ∧ Hid (Below w.heap.size w wr)) (fun v _ => 4 - (intOf v).toNat)
  case atStart => exact ⟨0, 0, List.replicate 52 0, rfl, by omega, Lp.start Z, HD2, HS2, HM2, HB2⟩
  case round =>
    clear HD2 HS2 HM2 HB2
    obtain ⟨p, m, hs, rfl, hp, hL, hD, hS, hM, hB⟩ := hrel
    by_cases hp4 : p < 4
    · have hlt : (p : Int) < 4 := by omega
      obtain ⟨a, cc, ha, hR⟩ := HH.out.cell p hp4
      have hcell : wr.cell? ⟨b, p, none⟩ = some (.slice a n cc) := (hB.out.cell (p := ⟨b, p, none⟩) hbs).trans ha
      have HR := hide hR
      clear ha hR
      go_wp2_with fail
      go_loopw [27] (fun v wi => ∃ (j m : Nat) (hs : List Nat), v = .int .i64 j ∧ j ≤ n ∧ Hid (Lp Z p j m hs) ∧ Hid (Dl wi (w.heap.size + 1) hs s w.heap.size) ∧ Hid (St wi sb m ld) ∧ Hid (Mp wi w.heap.size (fun _ _ _ => False)) ∧ Hid (Below w.heap.size w wi)) (fun v _ => n - (intOf v).toNat)
      case atStart => exact ⟨0, m, hs, rfl, by omega, hL, hD, hS, hM, hB⟩
      case round =>
        clear hL hD hS hM hB hcell
        obtain ⟨j, m, hs, rfl, hj, hL, hD, hS, hM, hB⟩ := hrel
        by_cases hjn : j < n
        · have hlj : (j : Int) < (n : Int) := by omega
          have hZl := HZ.out p hp4
          obtain ⟨x, hx⟩ : ∃ x, (Z p).getD j 0 = x := ⟨_, rfl⟩
          have hL2 := hide (hL.out.step HU.out hp4 x (by omega) hx)
          have hx52 : x < 52 := HU.out.lt p hp4 x (by rw [← hx]; simp [List.getD, show j < (Z p).length by omega])
          obtain ⟨bx, ox, ea, hcx⟩ := HR.out.cells (by omega)
          subst ea
          have c0 := hcx j hjn
          rw [toI_getD, hx] at c0
          have c1 : wr.cell? ⟨bx, ox + j, none⟩ = some (.int .i64 (x : Int)) := (hB.out.cell (p := ⟨bx, ox + j, none⟩) (World.block_lt_of_cell? w _ c0)).trans c0
          have hm64 := hL.out.lt
          have f1 := hD.out.frozen x
          have d1 := hD.out.cell x (by rw [hL.out.len]; exact hx52)
          have hs52 := hL.out.len
          clear c0 hx hcx hZl
          go_upto_region 10 with fail
          have D3 := hide (hD.out.set x p (by rw [hs52]; exact hx52))
          have S3 := hS.out.keeps (Keeps.set1 wr (w.heap.size + 1) x (.int .i64 (p : Int))) (by omega)
          have M3 := hide (hM.out.of_block ((Keeps.set1 wr (w.heap.size + 1) x (.int .i64 (p : Int))).block w.heap.size hM.out.lt (by omega)))
          have B3 := hide (hB.out.setCell (p := ⟨w.heap.size + 1, x, none⟩) (by show w.heap.size ≤ w.heap.size + 1; omega) (.int .i64 (p : Int)))
          clear hD hS hM hB c1 f1 d1 hL
          generalize wr.setCell ⟨w.heap.size + 1, x, none⟩ (.int .i64 (p : Int)) = w4 at *
          obtain ⟨c0, c1⟩ := S3.cells
          have f0 := S3.frozen 0
          have hB1 : IntKind.u64.wrap (2 ^ x) = 2 ^ x := shl_small x hx52
          have hB2 : bits BinOp.or IntKind.u64 (m : Int) (2 ^ x) = ((m ||| 2 ^ x : Nat) : Int) := bits_or_rm m x hm64 hx52
          generalize m ||| 2 ^ x = m2 at *
          have hS3 := hide S3
          clear S3
          go_region
          have S5 := hide (hS3.out.setL m2)
          have D5 := hide (D3.out.keeps (Keeps.set1 w4 sb 0 (.int .u64 (m2 : Int))) (by omega))
          have M5 := hide (M3.out.of_block ((Keeps.set1 w4 sb 0 (.int .u64 (m2 : Int))).block w.heap.size M3.out.lt (by omega)))
          have B5 := hide (B3.out.setCell (p := ⟨sb, 0, none⟩) (by show w.heap.size ≤ sb; omega) (.int .u64 (m2 : Int)))
          go_wp2
          exact ⟨⟨j + 1, m2, _, by go_num, by omega, hL2, D5.out, S5.out, M5.out, B5.out.drew⟩, by simp [intOf]; omega⟩
        · obtain rfl : j = n := by omega
          have hlj : ¬ (j : Int) < (j : Int) := by omega
          have hL2 := hide (hL.out.next (by rw [HZ.out p hp4]))
          go_wp2
          exact ⟨⟨p + 1, m, hs, by go_num, by omega, hL2, hD, hS, hM, hB⟩, by simp [intOf]; omega⟩
    · obtain rfl : p = 4 := by omega
      obtain ⟨hMk, hPm⟩ := hL.out.fin HU.out
      have hE4 : Even4 (HF m (fun c => hs.getD c 0)) ld 0 n := fun q hq => by
        rw [if_neg (by omega), ← (hPm q hq).length_eq, HZ.out q hq]
      have hEnv : Env wr (w.heap.size + 1) w.heap.size (fun c => hs.getD c 0) s := ⟨fun i hi => (hB.out.cell (p := ⟨0, i, none⟩) h0s).trans (HT.out i hi), fun x hx => hD.out.cell x (by rw [hL.out.len]; exact hx), (hD.out.rest hL.out.len).1, (hD.out.rest hL.out.len).2, hM.out.mono (fun _ _ _ e => e.elim)⟩
      have TK := hide (tricks_any (w.heap.size + 1) w.heap.size (fun c => hs.getD c 0) s (by omega) n m ld wr hMk hld hn hE4 hEnv (by omega))
      obtain ⟨c0, c1⟩ := hS.out.cells
      have HMk := hide hMk
      have HPm := hide hPm
      rw [show (((4 : Nat)) : Int) = (4 : Int) from rfl]
      clear hMk hPm hE4 hEnv hL hD hS hM
      generalize hhold : (fun c => hs.getD c 0) = hold at *
      clear hhold
      go_wp2_with fail
      refine TK.out.mono ?_
      rintro e w8 ⟨rfl, -, hK8⟩
      have B8 := hide (hB.out.trans ((hK8.mono (Y := fun k => w.heap.size ≤ k) (fun k _ e => by omega)).below (by have := hB.out.size; omega) (fun k hk e => by omega)))
      clear hK8
      go_wp2
      go_ret
      exact ⟨m, hold, HMk.out, HPm.out, rfl, B8.out⟩

end Go.Proofs.YtiihnlpoagnkhaaDoor
