/-
  Who has a row, and where: rows.Won. No conditions beyond those that each theorem bears.
-/
import Derived.Test.YthdnbbjehcicbaaDoorInR
namespace Go.Proofs.YthdnbbjehcicbaaDoor
open Go.RowKit

def toI (s : List Nat) : List Int := s.map (fun x : Nat => (x : Int))

theorem toI_length (s : List Nat) : (toI s).length = s.length := by simp [toI]
theorem toI_snoc (s : List Nat) (x : Nat) : toI (s ++ [x]) = toI s ++ [(x : Int)] := by simp [toI]
theorem toI_inj {s t : List Nat} (h : toI s = toI t) : s = t := by
  have := congrArg (List.map Int.toNat) h
  simpa [toI, Function.comp_def] using this

/-- The places below j that stand in a row. -/
def prt (W H : Nat) (zs : List Int) (k j : Nat) : List Nat := (List.range j).filter fun p => zs.getD p 0 != 0 && inR W H zs p k

def sg (zs : List Int) (l : List Nat) : List Int := l.map fun p => zs.getD p 0

/-- Whose signs are there: 1, 2, both: 3. -/
def wn (ss : List Int) : Nat := (if 1 ∈ ss then 1 else 0) + (if 2 ∈ ss then 2 else 0)

def orV (V : Nat) (x : Int) : Nat := if x = 1 then (if V = 0 then 1 else if V = 2 then 3 else V) else (if V = 0 then 2 else if V = 1 then 3 else V)

theorem wn_cases (ss : List Int) : wn ss = 0 ∨ wn ss = 1 ∨ wn ss = 2 ∨ wn ss = 3 := by
  unfold wn
  split <;> split <;> omega

theorem wn_snoc (ss : List Int) (x : Int) (h : x = 1 ∨ x = 2) : wn (ss ++ [x]) = orV (wn ss) x := by
  rcases h with rfl | rfl
  · have h1 : (1 : Int) ∈ ss ++ [1] := by simp
    have h2 : (2 : Int) ∈ ss ++ [1] ↔ 2 ∈ ss := by simp
    unfold wn orV
    rw [if_pos h1]
    by_cases a : (1 : Int) ∈ ss <;> by_cases b : (2 : Int) ∈ ss <;> simp [a, b]
  · have h1 : (2 : Int) ∈ ss ++ [2] := by simp
    have h2 : (1 : Int) ∈ ss ++ [2] ↔ 1 ∈ ss := by simp
    unfold wn orV
    rw [if_pos h1]
    by_cases a : (1 : Int) ∈ ss <;> by_cases b : (2 : Int) ∈ ss <;> simp [a, b]

theorem sg_snoc (zs : List Int) (l : List Nat) (p : Nat) : sg zs (l ++ [p]) = sg zs l ++ [zs.getD p 0] := by simp [sg]

theorem prt_in {W H : Nat} {zs : List Int} {k j : Nat} (h1 : zs.getD j 0 ≠ 0) (h2 : inR W H zs j k = true) : prt W H zs k (j + 1) = prt W H zs k j ++ [j] := by
  unfold prt
  rw [List.range_succ, List.filter_append, List.filter_cons, if_pos (by rw [h2]; simpa using h1)]
  rfl

theorem prt_out {W H : Nat} {zs : List Int} {k j : Nat} (h : zs.getD j 0 = 0 ∨ inR W H zs j k = false) : prt W H zs k (j + 1) = prt W H zs k j := by
  unfold prt
  rw [List.range_succ, List.filter_append, List.filter_cons, if_neg (by rcases h with h | h <;> rw [h] <;> simp), List.filter_nil, List.append_nil]

theorem prt_len (W H : Nat) (zs : List Int) (k j : Nat) : (prt W H zs k j).length ≤ j := by
  unfold prt
  exact Nat.le_trans (List.length_filter_le _ _) (by simp)

theorem prt_zero (W H : Nat) (zs : List Int) (k : Nat) : prt W H zs k 0 = [] := rfl

theorem slice_form {w : World} {base : Nat} {v : Value} {n : Nat} {xs : List Value} (h : w.ownsRow base 3 1 v n xs) : ∃ a c, v = .slice a n c := by
  rcases h.2 with ⟨hv, h0⟩ | ⟨g, cap, cur, hv, _⟩
  · exact ⟨none, 0, by rw [hv, h0]⟩
  · exact ⟨_, _, hv⟩

theorem own_below {w w' : World} {base e s n : Nat} {v : Value} {xs : List Value} (h : w.ownsRow base e s v n xs) (hb : Below w.heap.size w w') : w'.ownsRow base e s v n xs := by
  refine ⟨h.1, ?_⟩
  rcases h.2 with h2 | ⟨g, cap, cur, h1, h2, h3, h4⟩
  · exact Or.inl h2
  · exact Or.inr ⟨g, cap, cur, h1, h2, (hb.block g (Array.getElem?_eq_some_iff.1 h3).1).trans h3, h4⟩

theorem bits_or {V : Nat} {x : Int} (hV : V = 0 ∨ V = 1 ∨ V = 2 ∨ V = 3) (hx : x = 1 ∨ x = 2) : bits BinOp.or IntKind.i64 (V : Int) x = ((orV V x : Nat) : Int) := by
  rcases hx with rfl | rfl <;> rcases hV with rfl | rfl | rfl | rfl <;> decide +kernel

theorem wn_nil (zs : List Int) : wn (sg zs []) = 0 := rfl

set_option maxHeartbeats 1000000 in
theorem Won_no (W H : Int) (a : Option Addr) (n c : Nat) (zs : List Int) (k : Int) (w : World) (h : Rd w a n c zs) (hE : fltG W H zs k ≠ 0) :
    Calls Tryd.prog 7 #[.agg (gdA W H a n c), .int .i64 k] w fun e w' => e = .returned (.tuple #[.int .i64 0, .slice none 0 0, .int .i64 (fltG W H zs k)]) ∧ Below w.heap.size w w' := by
  have HM := hide (fun w1 (hb : Below w.heap.size w w1) => fault_any W H a n c zs k w1 (h.mono hb))
  have HB0 : Hid (Below w.heap.size w (w.alloc (.cells (gdA W H a n c) 24))) := hide ((Below.refl _ _).alloc (Nat.le_refl _) _)
  have G0 := Gd.new w W H a n c
  clear h
  generalize fltG W H zs k = R at *
  have hne : (R != 0) = true := by simpa using hE
  clear hE
  go_enter Tryd.func7, Tryd.ntmps7
  go_wp2_with (refine wpList_load_gd rfl (.tmp 2) rfl w.heap.size rfl G0 ?_)
  clear G0
  refine (HM.out _ HB0.out).mono ?_
  rintro e w2 ⟨rfl, hb2⟩
  have HB2 := hide (HB0.out.trans (hb2.mono HB0.out.size))
  clear hb2 HB0 HM
  go_wp2_with fail
  go_ret3
  exact ⟨rfl, HB2.out⟩

attribute [local irreducible] inR prt sg wn orV

set_option maxRecDepth 100000 in
set_option maxHeartbeats 4000000 in
theorem Won_yes (gW gH : Nat) (a : Option Addr) (n c k : Nat) (zs : List Int) (hmay : mayP gW gH zs) (hk : 1 ≤ k ∧ k ≤ 10) (w : World) (hT : Tab w) (h : Rd w a n c zs) :
    Calls Tryd.prog 7 #[.agg (gdA gW gH a n c), .int .i64 k] w fun e w' => ∃ a' c', e = .returned (.tuple #[.int .i64 (wn (sg zs (prt gW gH zs k n)) : Nat), .slice a' (prt gW gH zs k n).length c', .int .i64 0]) ∧ Rd w' a' (prt gW gH zs k n).length c' (toI (prt gW gH zs k n)) ∧ Below w.heap.size w w' := by
  obtain ⟨m1, m2, m3, m4, m5, m6⟩ := hmay
  have hF : fltG gW gH zs k = 0 := by unfold fltG; rw [if_pos (mayG_yes ⟨m1, m2, m3, m4, m5, m6⟩), if_pos (by omega)]
  have hlen := h.len
  have hm : gW * gH = n := by
    rw [hlen] at m5
    have : ((gW * gH : Nat) : Int) = (n : Int) := by rw [Int.natCast_mul, m5]
    omega
  have hgW : 1 ≤ gW ∧ gW ≤ 10 := by omega
  have hgH : 1 ≤ gH ∧ gH ≤ 10 := by omega
  have hn100 : n ≤ 100 := by
    have : gW * gH ≤ 10 * 10 := Nat.mul_le_mul hgW.2 hgH.2
    omega
  have hn1 : 0 < n := by
    have : 1 * 1 ≤ gW * gH := Nat.mul_le_mul hgW.1 hgH.1
    omega
  have HM := hide (fun w1 (hb : Below w.heap.size w w1) => fault_any gW gH a n c zs k w1 (h.mono hb))
  have hcm := h.max
  unfold maxLen at hcm
  have hcc := h.cap
  obtain ⟨b, off, rfl, hc⟩ := h.cells hn1
  have hgb : b < w.heap.size := World.block_lt_of_cell? w _ (hc 0 hn1)
  have HIN := hide (fun p (hp : p < n) w1 (hb : Below w.heap.size w w1) => inRow_any gW gH (some ⟨b, off, none⟩) n c p k zs hgW hgH hm hp (by omega) w1 (hT.mono hb) (h.mono hb))
  have HC : Hid (∀ w1, Below w.heap.size w w1 → ∀ i, i < n → w1.cell? ⟨b, off + i, none⟩ = some (.int .i64 (zs.getD i 0))) := hide (fun w1 hb i hi => (hb.cell (p := ⟨b, off + i, none⟩) hgb).trans (hc i hi))
  have HR02 : Hid (∀ i, i < n → 0 ≤ zs.getD i 0 ∧ zs.getD i 0 ≤ 2) := hide (fun i hi => m6 _ (getD_mem (by rw [hlen]; exact hi)))
  have HB0 : Hid (Below w.heap.size w (w.alloc (.cells (gdA gW gH (some ⟨b, off, none⟩) n c) 24))) := hide ((Below.refl _ _).alloc (Nat.le_refl _) _)
  have G0 := Gd.new w gW gH (some ⟨b, off, none⟩) n c
  rw [hF] at HM
  have HG0 := hide G0
  clear h hT hc m1 m2 m3 m4 m5 m6 hF hlen hm
  go_enter Tryd.func7, Tryd.ntmps7
  go_wp2_with (refine wpList_load_gd rfl (.tmp 2) rfl w.heap.size rfl G0 ?_)
  clear G0
  refine (HM.out _ HB0.out).mono ?_
  rintro e w2 ⟨rfl, hb2⟩
  have HG2 := hide (HG0.out.below hb2 HG0.out.lt)
  have HB2 := hide (HB0.out.trans (hb2.mono HB0.out.size))
  clear hb2 HB0 HM HG0
  have hs2 : w.heap.size < w2.heap.size := HG2.out.lt
  obtain ⟨-, -, g2⟩ := HG2.out.cells
  go_wp2_with fail
  clear g2
  go_loopw [8, 9, 21] (fun u v x wr => ∃ (j cp : Nat) (ad : Option Addr), x = .int .i64 j ∧ j ≤ n ∧ u = .int .i64 (wn (sg zs (prt gW gH zs k j)) : Nat) ∧ v = .slice ad (prt gW gH zs k j).length cp ∧ Hid (wr.ownsRow w2.heap.size 3 1 (.slice ad (prt gW gH zs k j).length cp) (prt gW gH zs k j).length ((toI (prt gW gH zs k j)).map (Value.int .i64))) ∧ Hid (Below w2.heap.size w2 wr)) (fun _ _ x _ => n - (intOf x).toNat)
  case atStart =>
    refine ⟨0, 0, none, rfl, by omega, ?_, ?_, ?_, hide (Below.refl _ _)⟩
    · rw [prt_zero, wn_nil]; rfl
    · rw [prt_zero]; rfl
    · rw [prt_zero]; exact World.ownsRow_nil _ _ _ _
  case round =>
    obtain ⟨j, cp, ad, rfl, hj, rfl, rfl, hO, hB⟩ := hrel
    by_cases hlt : j < n
    · have hlt' : (j : Int) < (n : Int) := by omega
      have HBw := hide (HB2.out.trans (hB.out.mono (by omega)))
      have cj := HC.out wr HBw.out j hlt
      have hx02 := HR02.out j hlt
      have hml := prt_len gW gH zs k j
      have HNX1 := hide (fun h => prt_out (W := gW) (H := gH) (zs := zs) (k := k) (j := j) h)
      have HNX2 := hide (fun h1 h2 => prt_in (W := gW) (H := gH) (zs := zs) (k := k) (j := j) h1 h2)
      have HSS := hide (sg_snoc zs (prt gW gH zs k j) j)
      obtain ⟨x, hxe⟩ : ∃ x, zs.getD j 0 = x := ⟨_, rfl⟩
      rw [hxe] at cj hx02 HNX1 HNX2 HSS
      clear hxe
      by_cases hx0 : x = 0
      · have HE := hide (HNX1.out (Or.inl hx0))
        subst hx0
        go_wp2_with fail
        refine ⟨⟨j + 1, cp, ad, by go_num, by omega, ?_, ?_, ?_, hB⟩, by simp [intOf]; omega⟩
        · rw [HE.out]
        · rw [HE.out]
        · rw [HE.out]; exact hO
      · have hxb : (x != 0) = true := by simpa using hx0
        have hx12 : x = 1 ∨ x = 2 := by omega
        have HG3 := hide (HG2.out.below hB.out hs2)
        have G3 := HG3.out
        have HI := hide (HIN.out j hlt wr HBw.out)
        obtain ⟨I, hI⟩ : ∃ I, inR gW gH zs j k = I := ⟨_, rfl⟩
        rw [hI] at HI HNX1 HNX2
        clear hI
        go_wp2_with (refine wpList_load_gd (by rfl) (.tmp 2) rfl w.heap.size rfl G3 ?_)
        clear G3
        refine HI.out.mono ?_
        rintro e w5 ⟨rfl, hb5⟩
        have HO5 : Hid (w5.ownsRow w2.heap.size 3 1 (.slice ad (prt gW gH zs k j).length cp) (prt gW gH zs k j).length ((toI (prt gW gH zs k j)).map (Value.int .i64))) := hide (own_below hO.out hb5)
        have HB5 := hide (hB.out.trans (hb5.mono hB.out.size))
        clear hb5 HI hO hB
        cases I with
        | false =>
          have HE := hide (HNX1.out (Or.inr rfl))
          go_wp2_with fail
          refine ⟨⟨j + 1, cp, ad, by go_num, by omega, ?_, ?_, ?_, HB5⟩, by simp [intOf]; omega⟩
          · rw [HE.out]
          · rw [HE.out]
          · rw [HE.out]; exact HO5
        | true =>
          have HE := hide (HNX2.out (by omega) rfl)
          have hR1 : Rd (World.alloc w5 (.cells #[.int .i64 (j : Nat)] 3)) (some ⟨w5.heap.size, 0, none⟩) 1 1 [((j : Nat) : Int)] := Rd.of_blk (Blk.new w5 3 [((j : Nat) : Int)] _ rfl) rfl (by decide)
          have hOa := HO5.out.alloc (.cells #[.int .i64 (j : Nat)] 3)
          have hBa := HB5.out.alloc HB5.out.size (.cells #[.int .i64 (j : Nat)] 3)
          have hsz := hBa.size
          have hwn := wn_cases (sg zs (prt gW gH zs k j))
          have HWN : Hid (wn (sg zs (prt gW gH zs k (j + 1))) = orV (wn (sg zs (prt gW gH zs k j))) x) := hide (by rw [HE.out, HSS.out, wn_snoc _ _ hx12])
          obtain ⟨V, hV⟩ : ∃ V, wn (sg zs (prt gW gH zs k j)) = V := ⟨_, rfl⟩
          rw [hV] at hwn HWN ⊢
          clear hV hx02 hx0 hxb
          have HPL : Hid ((prt gW gH zs k (j + 1)).length = (prt gW gH zs k j).length + 1) := hide (by rw [HE.out]; simp)
          have HPI : Hid (toI (prt gW gH zs k (j + 1)) = toI (prt gW gH zs k j) ++ [((j : Nat) : Int)]) := hide (by rw [HE.out, toI_snoc])
          generalize hpl : (prt gW gH zs k j).length = M at *
          clear hpl
          have HOR := hide (bits_or hwn hx12)
          go_wp2_with (at_builtin; refine wpList_append_rd _ rfl _ _ rfl w2.heap.size _ M (toI (prt gW gH zs k j)) rfl hOa (some ⟨w5.heap.size, 0, none⟩) 1 1 [((j : Nat) : Int)] rfl hR1 (by omega) hsz ?_)
          intro v' w6 hO6 hg6
          obtain ⟨ad6, cp6, rfl⟩ := slice_form hO6
          have HB6 := hide (hBa.grown hg6 (by omega) (fun q hq => by rcases HO5.out.2 with ⟨e, _⟩ | ⟨g, cap, cur, e, hbg, _⟩ <;> rw [e] at hq <;> simp [Value.ownBlock] at hq; omega))
          have HO6 := hide hO6
          clear hO6 hg6 hR1 hOa hBa
          go_wp2_with fail
          refine ⟨⟨j + 1, cp6, ad6, by go_num, by omega, ?_, ?_, ?_, HB6⟩, by simp [intOf]; omega⟩
          · rw [HWN.out, ← HOR.out]
          · rw [HPL.out]
          · rw [HPL.out, HPI.out, List.map_append]; exact HO6
    · have hlt' : ¬ (j : Int) < (n : Int) := by omega
      have hje : j = n := by omega
      subst hje
      have HB3 := hide (HB2.out.trans (hB.out.mono (by omega)))
      go_wp2_with fail
      go_ret3
      exact ⟨ad, cp, rfl, Rd.of_own hO.out, HB3.out⟩

end Go.Proofs.YthdnbbjehcicbaaDoor
