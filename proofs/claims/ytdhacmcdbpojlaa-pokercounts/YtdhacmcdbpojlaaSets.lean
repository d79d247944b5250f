/-
  The sets of k of n places, one behind another, as poker.sets hands them out. No conditions beyond those that each theorem bears.
-/
import Derived.Test.YtdhacmcdbpojlaaIter
import Derived.Deep.LoopGhost
namespace Go.Proofs.Ytdhacmcdbpojlaa
open Go.RowKit Go.Shelf

theorem ints_set (L : List Int) (i : Nat) (x : Int) : (L.map (Value.int .i64)).set i (.int .i64 x) = (L.set i x).map (Value.int .i64) := by
  rw [List.map_set]

theorem getD_set (L : List Int) (i j : Nat) (x : Int) (hi : i < L.length) : (L.set i x).getD j 0 = if j = i then x else L.getD j 0 := by
  simp only [List.getD, List.getElem?_set]
  by_cases h : i = j
  · subst h; simp [hi]
  · rw [if_neg h, if_neg (fun e => h e.symm)]

theorem made_ints (n : Nat) : (madeCells #[Value.int .i64 0] n).toList = (List.replicate n (0 : Int)).map (Value.int .i64) := by
  rw [toList_madeCells_one, List.map_replicate]

theorem own_cell {wr : World} {base g n : Nat} {L : List Int} (h : wr.ownsRow base 3 1 (.slice (some ⟨g, 0, none⟩) n n) n (L.map (Value.int .i64))) (p : Nat) (hp : p < n) :
    wr.cell? ⟨g, p, none⟩ = some (.int .i64 (L.getD p 0)) ∧ wr.frozen? ⟨g, p, none⟩ = false := by
  refine ⟨?_, h.frozenAt p⟩
  have hl : L.length = n := by simpa using h.1
  rw [h.cellAt p (by omega)]
  simp [List.getD, hl, hp]

theorem own_set {wr : World} {base g n : Nat} {L : List Int} (h : wr.ownsRow base 3 1 (.slice (some ⟨g, 0, none⟩) n n) n (L.map (Value.int .i64))) (p : Nat) (x : Int) :
    (wr.setCell ⟨g, p, none⟩ (.int .i64 x)).ownsRow base 3 1 (.slice (some ⟨g, 0, none⟩) n n) n ((L.set p x).map (Value.int .i64)) := by
  have := (h.stored p (.int .i64 x)).1
  rwa [ints_set] at this

/-- One more than the last place below j that can still go up; 0 where there is none. -/
def lastOf (n k : Nat) (s : List Nat) : Nat → Nat
  | 0 => 0
  | j + 1 => if s.getD j 0 = n - k + j then lastOf n k s j else j + 1

/-- The set behind s, told from where it goes up on. -/
def fillFrom (s : List Nat) (j i : Nat) : List Nat := s.take j ++ (List.range (i - j)).map (fun q => s.getD j 0 + 1 + q) ++ s.drop i

def nextSet (n k : Nat) (s : List Nat) : Option (List Nat) :=
  match lastOf n k s k with
  | 0 => none
  | j + 1 => some (fillFrom s j k)

/-- One behind another, to the last. -/
def Run (n k : Nat) : List Nat → List (List Nat) → Prop
  | s, [] => nextSet n k s = none
  | s, s' :: r => nextSet n k s = some s' ∧ Run n k s' r

def toI (s : List Nat) : List Int := s.map (fun x : Nat => (x : Int))

theorem toI_length (s : List Nat) : (toI s).length = s.length := by simp [toI]
theorem toI_getD (s : List Nat) (i : Nat) : (toI s).getD i 0 = ((s.getD i 0 : Nat) : Int) := by
  simp only [toI, List.getD, List.getElem?_map]
  cases s[i]? <;> simp

def GSet (k : Nat) (s : List Nat) (args : Array Value) (W : World) : Prop := ∃ ad, args = #[.slice ad k k] ∧ Rd W ad k k (toI s)

def RSet (bk bn n k : Nat) (W : World) : Prop := W.cell? ⟨bk, 0, none⟩ = some (.int .i64 k) ∧ W.cell? ⟨bn, 0, none⟩ = some (.int .i64 n)

theorem ownK {X : Nat → Prop} {A B : World} {base g n : Nat} {L : List Int} (h : A.ownsRow base 3 1 (.slice (some ⟨g, 0, none⟩) n n) n (L.map (Value.int .i64))) (hk : Keeps X A B) (hX : ∀ k, X k → k < base) :
    B.ownsRow base 3 1 (.slice (some ⟨g, 0, none⟩) n n) n (L.map (Value.int .i64)) := by
  obtain ⟨h1, h2⟩ := h
  refine ⟨h1, ?_⟩
  rcases h2 with h2 | ⟨g', cap, cur, hv, hb, hg, h3⟩
  · exact .inl h2
  · refine .inr ⟨g', cap, cur, hv, hb, ?_, h3⟩
    exact (hk.block g' (Array.getElem?_eq_some_iff.1 hg).1 (fun hx => by have := hX _ hx; omega)).trans hg

theorem drewN_below (B : Nat) (w : World) (q : Nat) : Below B w (w.drewN q) := by
  induction q with
  | zero => exact Below.refl _ _
  | succ q ih => exact ⟨rfl, rfl, rfl, Nat.le_refl _, fun _ _ => rfl⟩

theorem fill_len (s : List Nat) (i p : Nat) (h1 : i ≤ p) (h2 : p ≤ s.length) : (fillFrom s i p).length = s.length := by
  simp [fillFrom]; omega

theorem fill_get (s : List Nat) (i p q : Nat) (h1 : i ≤ p) (h2 : p ≤ s.length) :
    (fillFrom s i p).getD q 0 = if q < i then s.getD q 0 else if q < p then s.getD i 0 + 1 + (q - i) else s.getD q 0 := by
  simp only [fillFrom, List.getD]
  by_cases a : q < i
  · rw [if_pos a, List.append_assoc, List.getElem?_append_left (by simp; omega), List.getElem?_take_of_lt a]
  · rw [if_neg a]
    by_cases b : q < p
    · rw [if_pos b, List.getElem?_append_left (by simp; omega), List.getElem?_append_right (by simp; omega)]
      have : min i s.length = i := by omega
      simp [this]
      rw [List.getElem?_range (by omega)]
      simp
    · rw [if_neg b, List.getElem?_append_right (by simp; omega)]
      have h3 : (s.take i ++ (List.range (p - i)).map (fun q => s[i]?.getD 0 + 1 + q)).length = p := by simp; omega
      rw [h3, List.getElem?_drop]
      congr 2
      omega

theorem list_ext (a b : List Nat) (hl : a.length = b.length) (h : ∀ q, q < a.length → a.getD q 0 = b.getD q 0) : a = b := by
  apply List.ext_getElem hl
  intro i h1 h2
  have := h i h1
  simpa [List.getD, h1, h2] using this

theorem toI_set (s : List Nat) (p x : Nat) : (toI s).set p (x : Int) = toI (s.set p x) := by
  simp only [toI, List.map_set]

theorem getD_setN (L : List Nat) (i j : Nat) (x : Nat) (hi : i < L.length) : (L.set i x).getD j 0 = if j = i then x else L.getD j 0 := by
  simp only [List.getD, List.getElem?_set]
  by_cases h : i = j
  · subst h; simp [hi]
  · rw [if_neg h, if_neg (fun e => h e.symm)]

theorem fill_first (s : List Nat) (i : Nat) (h : i < s.length) : s.set i (s.getD i 0 + 1) = fillFrom s i (i + 1) := by
  apply list_ext
  · rw [fill_len s i (i + 1) (by omega) (by omega)]; simp
  · intro q hq
    rw [getD_setN _ _ _ _ h, fill_get s i (i + 1) q (by omega) (by omega)]
    by_cases a : q = i
    · subst a; simp
    · rw [if_neg a]
      by_cases b : q < i
      · rw [if_pos b]
      · rw [if_neg b, if_neg (by omega)]

theorem fill_step (s : List Nat) (i p : Nat) (h1 : i < p) (h2 : p < s.length) : (fillFrom s i p).set p (s.getD i 0 + 1 + (p - i)) = fillFrom s i (p + 1) := by
  have hl := fill_len s i p (by omega) (by omega)
  apply list_ext
  · rw [fill_len s i (p + 1) (by omega) (by omega)]; simp [hl]
  · intro q hq
    rw [getD_setN _ _ _ _ (by omega), fill_get s i (p + 1) q (by omega) (by omega), fill_get s i p q (by omega) (by omega)]
    by_cases a : q = p
    · subst a
      rw [if_pos rfl, if_neg (by omega), if_pos (by omega)]
    · rw [if_neg a]
      by_cases b : q < i
      · rw [if_pos b, if_pos b]
      · rw [if_neg b, if_neg b]
        by_cases c : q < p
        · rw [if_pos c, if_pos (by omega)]
        · rw [if_neg c, if_neg (by omega)]

attribute [local go_sem] Oper.semAt_some

set_option maxRecDepth 100000 in
set_option maxHeartbeats 2000000 in
theorem sets1_all (bk bn n k : Nat) (hk : k ≤ n) (hn : n ≤ 1000) (rest : List (List Nat)) (hrun : Run n k (List.range k) rest) (hlen : ∀ x ∈ (List.range k :: rest), x.length = k ∧ ∀ i, x.getD i 0 ≤ 2000) :
    SeqAll Try.prog 47 #[.pointer (some ⟨bk, 0, none⟩), .pointer (some ⟨bn, 0, none⟩)] (GSet k) (List.range k :: rest) (RSet bk bn n k) := by
  intro l X J W hR hRk hX hJ hY h0
  obtain ⟨i0, hi, hz0, hz1, hz2⟩ := info_parts Try.info3
  obtain ⟨hbk, hbn⟩ := hR
  have hbkl : bk < W.heap.size := World.block_lt_of_cell? W _ hbk
  have hbnl : bn < W.heap.size := World.block_lt_of_cell? W _ hbn
  have hkk : (0 : Int) ≤ (k : Int) := by omega
  have hkn : ¬ (n : Int) < (k : Int) := by omega
  have hkz : decide ((k : Int) < 0) = false := by simp
  refine callsIn_of_wp Try.func47 rfl trivial ?_ rfl
  simp only [Try.ntmps47, List.size_toArray, List.length_cons, List.length_nil, Nat.reduceAdd, Nat.reduceSub, Array.replicate_succ, Array.replicate_zero, List.push_toArray, List.append_toArray, List.nil_append, List.cons_append]
  refine wpIn_wide.2 ?_
  have hmm : k ≤ maxLen := by unfold maxLen; omega
  have hby : i0.bytes * k ≤ 281474976710656 := by rw [hz2]; omega
  go_wp2_with (at_make; refine wpList_make_full W rfl _ _ 22 rfl W.heap.size 3 i0 (.int .i64 0) 1 Try.underlying22 hi hz0 hz1 _ _ _ _ k rfl rfl (by omega) (by omega) hby hmm (Nat.le_refl _) ?_)
  intro w1 hown hgrow
  have hb1 : Below W.heap.size W w1 := (Below.refl _ _).grown hgrow (Nat.le_refl _) (fun k hk => by simp at hk)
  rw [made_ints] at hown
  clear hgrow
  go_wp2
  go_loopw [19] (fun i wr => ∃ (j : Nat) (L : List Int), j ≤ k ∧ i = .int .i64 j ∧ wr.ownsRow W.heap.size 3 1 (.slice (some ⟨W.heap.size, 0, none⟩) k k) k (L.map (Value.int .i64)) ∧ Below W.heap.size W wr ∧ Hid (∀ p, p < j → L.getD p 0 = p)) (fun i _ => k - (intOf i).toNat)
  case atStart => exact ⟨0, _, by omega, rfl, hown, hb1, fun p hp => absurd hp (by omega)⟩
  case round =>
    clear hown hb1
    obtain ⟨j, L, hj, rfl, hown, hbel, HL⟩ := hrel
    have hLl : Hid (L.length = k) := hide (by simpa using hown.1)
    by_cases hlt : j < k
    · obtain ⟨c1, f1⟩ := own_cell hown j hlt
      have HO := hide (own_set hown j j)
      have HB := hide hbel
      have hlt' : (j : Int) < (k : Int) := by omega
      clear hown hbel
      go_wp2
      go_roundw
      case rel =>
        refine ⟨j + 1, _, by omega, by go_num, HO.out, HB.out.setCell (Nat.le_refl _) _, fun p hp => ?_⟩
        rw [getD_set _ _ _ _ (by rw [hLl.out]; exact hlt)]
        by_cases he : p = j
        · rw [if_pos he, he]
        · rw [if_neg he]; exact HL.out p (by omega)
      case measure => simp [intOf]; omega
    · obtain rfl : j = k := by omega
      have hlt' : ¬ (j : Int) < (j : Int) := by omega
      have hL : L = toI (List.range j) := by
        apply List.ext_getElem
        · rw [hLl.out, toI_length, List.length_range]
        · intro i h1 h2
          have := HL.out i (by rw [hLl.out] at h1; exact h1)
          simpa [List.getD, h1, toI] using this
      subst hL
      clear HL hLl
      have HO := hide hown
      have HB := hide hbel
      clear hown hbel
      go_wp2
      go_loopg [6] rest.length (fun gk _ wr => ∃ (pre : List (List Nat)) (s : List Nat) (r : List (List Nat)), Hid (pre ++ s :: r = List.range j :: rest) ∧ Hid (r.length = gk) ∧ Hid (Run n j s r) ∧ Hid (wr.ownsRow W.heap.size 3 1 (.slice (some ⟨W.heap.size, 0, none⟩) j j) j ((toI s).map (Value.int .i64))) ∧ Hid (J pre wr) ∧ Hid (RSet bk bn n j wr))
      case atStart => exact ⟨[], _, rest, rfl, rfl, hrun, HO.out, hJ _ _ _ h0 HB.out, hRk _ _ ⟨hbk, hbn⟩ (Keeps.of_all HB.out)⟩
      case round =>
        clear HO HB hbk hbn h0 hlt hlt' hj
        obtain ⟨pre, s, r, hpre, hrl, hrn, hown, hJp, hRw⟩ := hrel
        obtain ⟨fn, tmps, assign, body, hy, hR⟩ := YieldAt.anyD (m' := 0) (hY pre s #[.slice (some ⟨W.heap.size, 0, none⟩) j j] wr hJp.out (by rw [← hpre.out]; exact ⟨r, by simp⟩) ⟨_, rfl, Rd.of_own hown.out⟩)
        have hls := hlen s (by rw [← hpre.out]; simp)
        obtain ⟨hsl, hsb⟩ := hls
        refine (wpIn_wide (n := 1)).1 ?_
        gi_wp2
        refine hR.mono ?_
        rintro e W3 ⟨rfl, hJ3, hk3⟩
        have own3 := hide (ownK hown.out hk3 hX)
        obtain ⟨hbk, hbn⟩ := hRk _ _ hRw.out hk3
        have HSZ := hide (Nat.le_trans (World.block_lt_of_cell? _ _ hbk) (Nat.le_refl _))
        have HJ3 := hide hJ3
        clear hy hR hJ3 hk3 hown hJp hRw
        gi_wp2
        refine wpIn_wide.2 ?_
        go_loopw [6] (fun v wq => ∃ (i q : Nat), v = .int .i64 ((i : Int) - 1) ∧ i ≤ j ∧ Hid (lastOf n j s i = lastOf n j s j) ∧ wq = W3.drewN q) (fun v _ => (intOf v + 1).toNat)
        case atStart => exact ⟨j, 0, rfl, Nat.le_refl _, rfl, rfl⟩
        case round =>
          obtain ⟨i, q, rfl, hij, hla, rfl⟩ := hrel
          cases i with
          | zero =>
            have e0 : (((0 : Nat) : Int) - 1) = -1 := by omega
            simp only [e0]
            clear e0
            go_wp2
            go_quiet (fail)
            go_wp2
            refine wpIn_wide.2 ?_
            go_wp2
            refine bodyPost_ret (results_none rfl _ _ _) rfl ?_
            have hr : r = [] := by
              have hrn' := hrn.out
              cases r with
              | nil => rfl
              | cons s' r' =>
                have h1 := hrn'.1
                simp only [nextSet, ← hla.out, lastOf] at h1
                cases h1
            refine ⟨⟨_, rfl⟩, ?_⟩
            have h2 := hpre.out
            rw [hr] at h2
            rw [← h2]
            exact hJ _ _ _ HJ3.out (drewN_below _ _ _)
          | succ i =>
            have e0 : (((i + 1 : Nat) : Int) - 1) = (i : Int) := by omega
            simp only [e0]
            clear e0
            obtain ⟨c1, f1⟩ := own_cell own3.out i (by omega)
            rw [toI_getD] at c1
            have hx := hsb i
            obtain ⟨x, ex⟩ : ∃ x, s.getD i 0 = x := ⟨_, rfl⟩
            rw [ex] at c1 hx
            by_cases hv : x = n - j + i
            · have hb : ((x : Int) == (n : Int) - (j : Int) + (i : Int)) = true := by simp; omega
              have HX := hide ex
              have HV := hide hv
              clear ex hv
              go_wp2
              go_quiet (fail)
              go_wp2
              refine ⟨⟨i, _, rfl, by omega, ?_, rfl⟩, by simp [intOf]⟩
              have h3 := hla.out
              rw [lastOf, if_pos (HX.out.trans HV.out)] at h3
              exact h3
            · have hb : ((x : Int) == (n : Int) - (j : Int) + (i : Int)) = false := by simp; omega
              have hnx : nextSet n j s = some (fillFrom s i j) := by
                have h3 := hla.out
                rw [lastOf, if_neg (by rw [ex]; exact hv)] at h3
                simp only [nextSet, ← h3]
              have hrr : ∃ r', r = fillFrom s i j :: r' ∧ Run n j (fillFrom s i j) r' := by
                have hrn' := hrn.out
                cases r with
                | nil => rw [Run, hnx] at hrn'; cases hrn'
                | cons s' r' =>
                  have h1 := hrn'.1
                  rw [hnx] at h1
                  cases h1
                  exact ⟨r', rfl, hrn'.2⟩
              obtain ⟨r', er, hrun'⟩ := hrr
              have HX := hide ex
              have HV := hide hv
              have HRR := hide er
              have HRU := hide hrun'
              have O1 : Hid (∀ m, ((W3.drewN m).setCell ⟨W.heap.size, i, none⟩ (.int .i64 (x + 1))).ownsRow W.heap.size 3 1 (.slice (some ⟨W.heap.size, 0, none⟩) j j) j ((toI (fillFrom s i (i + 1))).map (Value.int .i64))) := by
                intro m
                have h4 := own_set (ownK own3.out (Keeps.of_all (X := fun _ => False) (drewN_below _ W3 m)) (fun _ h => h.elim)) i ((x : Int) + 1)
                have h5 := toI_set s i (x + 1)
                rw [show (((x + 1 : Nat)) : Int) = (x : Int) + 1 by omega] at h5
                rw [h5] at h4
                rw [← fill_first s i (by omega), ex]
                exact h4
              clear ex hv er hrun' hnx
              go_wp2
              go_quiet (fail)
              go_wp2
              refine wpIn_wide.2 ?_
              go_wp2
              go_loopw [7] (fun v wq => ∃ (p : Nat), v = .int .i64 p ∧ Hid (i < p ∧ p ≤ j) ∧ Hid (wq.ownsRow W.heap.size 3 1 (.slice (some ⟨W.heap.size, 0, none⟩) j j) j ((toI (fillFrom s i p)).map (Value.int .i64))) ∧ Hid (Below W.heap.size W3 wq)) (fun v _ => j - (intOf v).toNat)
              case atStart => exact ⟨i + 1, by go_num, ⟨by omega, by omega⟩, O1.out _, ((drewN_below W.heap.size W3 _)).setCell (Nat.le_refl _) _⟩
              case round =>
                obtain ⟨p, rfl, hp, hown, hbel⟩ := hrel
                have hbk' : wr.cell? ⟨bk, 0, none⟩ = some (.int .i64 j) := (hbel.out.cell (p := ⟨bk, 0, none⟩) hbkl).trans hbk
                by_cases hlt : p < j
                · have hlt' : (p : Int) < (j : Int) := by omega
                  have hp1 : i < p := hp.out.1
                  obtain ⟨d, rfl⟩ : ∃ d, p = i + 1 + d := ⟨p - i - 1, by omega⟩
                  obtain ⟨c1, f1⟩ := own_cell hown.out (i + d) (by omega)
                  obtain ⟨c2, f2⟩ := own_cell hown.out (i + 1 + d) (by omega)
                  rw [toI_getD, fill_get s i (i + 1 + d) (i + d) (by omega) (by omega), if_neg (by omega), if_pos (by omega), HX.out] at c1
                  have e1 : x + 1 + (i + d - i) = x + 1 + d := by omega
                  rw [e1] at c1
                  have HO := own_set hown.out (i + 1 + d) ((x + 1 + d : Nat) + 1 : Int)
                  have h5 := toI_set (fillFrom s i (i + 1 + d)) (i + 1 + d) (x + 1 + d + 1)
                  rw [show ((x + 1 + d + 1 : Nat) : Int) = ((x + 1 + d : Nat) : Int) + 1 by omega] at h5
                  rw [h5] at HO
                  have h6 := fill_step s i (i + 1 + d) (by omega) (by omega)
                  rw [HX.out, show x + 1 + (i + 1 + d - i) = x + 1 + d + 1 by omega] at h6
                  rw [h6] at HO
                  have HO1 := hide HO
                  have em : ((i + 1 + d : Nat) : Int) - 1 = ((i + d : Nat) : Int) := by omega
                  clear HO h5 h6 e1 hown
                  obtain ⟨y, hy⟩ : ∃ y, x + 1 + d = y := ⟨_, rfl⟩
                  obtain ⟨p, hpp⟩ : ∃ p, i + 1 + d = p := ⟨_, rfl⟩
                  obtain ⟨p', hpp'⟩ : ∃ p', i + d = p' := ⟨_, rfl⟩
                  rw [hy] at c1 HO1
                  rw [hpp] at c2 f2 HO1 hlt' hlt hp em ⊢
                  rw [hpp'] at c1 f1 em
                  have hyb : y ≤ 4000 := by omega
                  have hpb : p < 1000 := by omega
                  have hpb' : p' < p := by omega
                  have HPP := hide hpp
                  clear hpp hpp' hy hbk hbn
                  go_wp2
                  refine ⟨⟨p + 1, by go_num, ⟨by have := HPP.out; omega, by omega⟩, HO1.out, hbel.out.setCell (Nat.le_refl _) _⟩, by simp [intOf]; omega⟩
                · have hp2 := hp.out
                  obtain rfl : p = j := by omega
                  have hlt' : ¬ (p : Int) < (p : Int) := by omega
                  have hbn' : wr.cell? ⟨bn, 0, none⟩ = some (.int .i64 n) := (hbel.out.cell (p := ⟨bn, 0, none⟩) hbnl).trans hbn
                  have HBN := hide hbn'
                  clear hbk hbn hbn'
                  go_wp2
                  go_roundg r'.length
                  case measure => rw [← hrl.out, HRR.out]; simp
                  case rel => exact ⟨pre ++ [s], fillFrom s i p, r', (by rw [← hpre.out, HRR.out]; simp : _ = _), rfl, HRU.out, hown.out, hJ _ _ _ HJ3.out hbel.out, hbk', HBN.out⟩

end Go.Proofs.Ytdhacmcdbpojlaa
