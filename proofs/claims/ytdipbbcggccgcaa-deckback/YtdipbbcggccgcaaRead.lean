/-
  What package deck's firstLetters and Read answer, in the runes that a text holds. No conditions beyond those that each theorem bears.
-/
import Derived.Test.YtdipbbcggccgcaaLetters
import Derived.Deep.RegionWith
namespace Go.Proofs.Ytdipbbcggccgcaa
open Go.RowKit Go.Lib

theorem Try.info21 : (Try.prog.info? 21).map (fun i => (i.zero, i.size, i.bytes)) = some (some (.int .i32 0), 1, 4) := by kernel_rfl

/-- A slice of runes reads zs. -/
structure RdR (w : World) (a : Option Addr) (n c : Nat) (zs : List Int) : Prop where
  len : zs.length = n
  cap : n ≤ c
  cells : 0 < n → ∃ b off, a = some ⟨b, off, none⟩ ∧ ∀ i, i < n → w.cell? ⟨b, off + i, none⟩ = some (.int .i32 (zs.getD i 0))

theorem RdR.of_own {w : World} {base : Nat} {a : Option Addr} {n c : Nat} {zs : List Int} (h : w.ownsRow base 21 1 (.slice a n c) n (zs.map (Value.int .i32))) : RdR w a n c zs := by
  have hl : zs.length = n := by simpa using h.1
  rcases h.2 with ⟨hv, h0⟩ | ⟨g, cap, cur, hv, hb, hg, hnc, hcm, hcs, ht⟩
  · simp only [Value.slice.injEq] at hv
    obtain ⟨rfl, rfl, rfl⟩ := hv
    exact ⟨hl, Nat.le_refl _, fun h => absurd h (by omega)⟩
  · simp only [Value.slice.injEq] at hv
    obtain ⟨rfl, -, rfl⟩ := hv
    refine ⟨hl, hnc, fun _ => ⟨g, 0, rfl, fun i hi => ?_⟩⟩
    rw [Nat.zero_add, h.cellAt i (by omega)]
    simp [List.getD, hl, hi]

theorem RdR.mono {w w' : World} {a n c zs} (h : RdR w a n c zs) (hb : Below w.heap.size w w') : RdR w' a n c zs := by
  refine ⟨h.len, h.cap, fun hn => ?_⟩
  obtain ⟨b, off, rfl, hc⟩ := h.cells hn
  refine ⟨b, off, rfl, fun i hi => ?_⟩
  rw [hb.cell (World.block_lt_of_cell? w _ (hc i hi))]
  exact hc i hi

theorem formR {w : World} {base : Nat} {v : Value} {n : Nat} {xs : List Value} (h : w.ownsRow base 21 1 v n xs) : ∃ a c, v = .slice a n c := by
  rcases h.2 with ⟨hv, h0⟩ | ⟨g, cap, cur, hv, _⟩
  · exact ⟨none, 0, by rw [hv, h0]⟩
  · exact ⟨_, _, hv⟩

theorem one_rune (w : World) (x : Int) : ∀ j u, ([Value.int .i32 x] : List Value)[j]? = some u → (w.alloc (.cells #[.int .i32 x] 21)).cell? ((⟨w.heap.size, 0, none⟩ : Addr).add j) = some u := by
  intro j u hj
  match j, hj with
  | 0, hj => simp at hj; subst hj; simp [Addr.add]

set_option maxRecDepth 1000000 in
set_option maxHeartbeats 1000000 in
theorem first_any (s : ByteArray) (w : World) :
    Calls Try.prog 32 #[.string s] w fun e w' => ∃ a c, e = .returned (.slice a ((runesOf s).take 4).length c) ∧ RdR w' a ((runesOf s).take 4).length c ((runesOf s).take 4) ∧ Below w.heap.size w w' := by
  obtain ⟨i0, hi, hz0, hz1, hz2⟩ := info_parts Try.info21
  go_enter Try.func32, Try.ntmps32
  go_wp2
  go_loopw [3] (fun v wr => ∃ (pos f : Nat) (L : List Int) (a : Option Addr) (c : Nat), wr.heap[w.heap.size]? = some (.stringIter s pos) ∧ v = .slice a L.length c ∧ L.length ≤ 4 ∧ wr.ownsRow (w.heap.size + 1) 21 1 (.slice a L.length c) L.length (L.map (Value.int .i32)) ∧ Below w.heap.size w wr ∧ Hid (L ++ (runes s f pos).take (4 - L.length) = (runesOf s).take 4) ∧ s.size ≤ pos + f) (fun _ wr => s.size - wr.iterPos w.heap.size)
  case atStart => exact ⟨0, s.size, [], none, 0, World.iter_heap _ _ _, rfl, by simp, World.ownsRow_nil _ _ _ _, below_iter _ _ _, rfl, by omega⟩
  case round =>
    obtain ⟨pos, f, L, a, c, hit, rfl, hL4, hO, hB, HP, hf⟩ := hrel
    have hk0 : w.heap.size < wr.heap.size := (Array.getElem?_eq_some_iff.1 hit).1
    have hip : wr.iterPos w.heap.size = pos := by unfold World.iterPos; rw [hit]
    have HIP := hide hip
    clear hip
    by_cases hps : pos < s.size
    · have hnx := fun ty => run_next_any_at (P := Try.prog) wr w.heap.size s pos ty hit hps
      have hwd := width_pos s pos hps
      obtain ⟨g, rfl⟩ : ∃ g, f = g + 1 := ⟨f - 1, by omega⟩
      have hstep : runes s (g + 1) pos = ((Utf8.decode s pos).1 : Int) :: runes s g (pos + (Utf8.decode s pos).2) := by simp [runes, hps]
      rw [hstep] at HP
      clear hstep
      obtain ⟨⟨r, d⟩, hrd⟩ : ∃ q, q = Utf8.decode s pos := ⟨_, rfl⟩
      rw [← hrd] at hnx hwd HP
      simp only at hnx hwd HP
      have HI2 := hide (iterAt_heap wr w.heap.size s pos (pos + d) hit)
      have HO2 := hide (ownsRow_iterAt hO (show w.heap.size < w.heap.size + 1 by omega) s (pos + d))
      have HB2 := hide (below_iterAt hB (Nat.le_refl w.heap.size) s (pos + d))
      have HSZ := hide (iterAt_size wr w.heap.size s (pos + d))
      obtain ⟨wi, hwi⟩ : ∃ wi, wi = wr.iterAt w.heap.size s (pos + d) := ⟨_, rfl⟩
      rw [← hwi] at hnx HI2 HO2 HB2 HSZ
      clear hrd hwi hO hB hit
      by_cases hv : 3 < L.length
      · have hv' : (3 : Int) < (L.length : Int) := by omega
        have HR : Hid ((runesOf s).take 4 = L) := hide (by rw [← HP.out, show 4 - L.length = 0 by omega]; simp)
        go_wp2
        go_ret
        exact ⟨a, c, by rw [HR.out]; rfl, by rw [HR.out]; exact RdR.of_own HO2.out, HB2.out⟩
      · have hv' : ¬ (3 : Int) < (L.length : Int) := by omega
        have HR : Hid ((L ++ [(r : Int)]) ++ (runes s g (pos + d)).take (4 - (L ++ [(r : Int)]).length) = (runesOf s).take 4) := hide (by
          rw [← HP.out, show 4 - L.length = (3 - L.length) + 1 by omega, List.take_succ_cons]
          simp [show 4 - (L.length + 1) = 3 - L.length by omega])
        have hr1 := one_rune wi (r : Int)
        have HR1 := hide hr1
        clear hr1
        go_wp2_with (at_builtin; refine wpList_append_own _ rfl (.tmp 14) (.tmp 16) 53 rfl (w.heap.size + 1) 21 i0 (.int .i32 0) 1 4 Try.underlying53 hi hz0 hz1 hz2 rfl (by decide) _ L.length _ rfl (HO2.out.alloc _) ⟨wi.heap.size, 0, none⟩ 1 1 [.int .i32 (r : Int)] rfl rfl HR1.out (by simp [Value.oneCell']) (by unfold maxLen; omega) (by omega) (by have := HSZ.out; simp; omega) ?_)
        intro v' w' hO' hG' _
        obtain ⟨a', c', hv2⟩ := formR hO'
        rw [hv2] at hO' ⊢
        have hb0 : Below w.heap.size w (wi.alloc (.cells #[.int .i32 (r : Int)] 21)) := HB2.out.alloc HB2.out.size _
        have HB3 := hide (hb0.grown hG' hb0.size (fun j hj => by have := (HO2.out.lt j hj).1; omega))
        have HI3 : Hid (w'.heap[w.heap.size]? = some (.stringIter s (pos + d))) := hide (by
          have h1 : (wi.alloc (.cells #[.int .i32 (r : Int)] 21)).heap[w.heap.size]? = some (.stringIter s (pos + d)) := by
            rw [Below.heap_alloc _ _ _ (by have := HSZ.out; omega)]; exact HI2.out
          rw [hG'.block _ (Array.getElem?_eq_some_iff.1 h1).1 (fun e => by have := (HO2.out.lt _ e.symm).1; omega)]
          exact h1)
        have HO3 := hide hO'
        clear hO' hG' hb0 hv2
        go_wp2
        go_roundw
        case rel => exact ⟨pos + d, g, L ++ [(r : Int)], a', c', HI3.out, by simp, by simp; omega, by simpa using HO3.out, HB3.out, HR, by omega⟩
        case measure =>
          have e1 : w'.iterPos w.heap.size = pos + d := by unfold World.iterPos; rw [HI3.out]
          rw [e1, HIP.out]
          omega
    · have hnx := fun ty => run_next_end_at (P := Try.prog) wr w.heap.size s pos ty hit hps
      have HR : Hid ((runesOf s).take 4 = L) := hide (by rw [← HP.out, runes_end s f pos hps]; simp)
      go_wp2
      go_ret
      exact ⟨a, c, by rw [HR.out]; rfl, by rw [HR.out]; exact RdR.of_own hO, hB⟩

/-- What Read answers, once the rank's place and the suit's are known. -/
def readVal (V S : Int) : Value := if V < 0 ∨ S < 0 then .tuple #[.int .i64 0, .int .i64 1] else .tuple #[.int .i64 (V * 4 + S), .int .i64 0]

set_option maxHeartbeats 1000000 in
theorem Read_two (s : ByteArray) (y x : Int) (w : World) (h : (runesOf s).take 4 = [y, x]) :
    Calls Try.prog 10 #[.string s] w fun e w' => e = .returned (readVal (plc ranksL y 0) (suF x)) ∧ Below w.heap.size w w' := by
  have HH := hide h
  clear h
  go_enter Try.func10, Try.ntmps10
  go_wp2_with fail
  refine (first_any s _).mono ?_
  rintro e w1 ⟨a, c, rfl, hR, hB1⟩
  rw [HH.out] at hR ⊢
  have HB1 := hide hB1
  clear hB1
  obtain ⟨b, off, rfl, hc⟩ := hR.cells (by simp)
  have c0 : w1.cell? ⟨b, off, none⟩ = some (.int .i32 y) := by have := hc 0 (by simp); simpa using this
  have c1 : w1.cell? ⟨b, off + 1, none⟩ = some (.int .i32 x) := by have := hc 1 (by simp); simpa using this
  have hblt : b < w1.heap.size := World.block_lt_of_cell? w1 _ c0
  clear hc hR
  simp only [List.length_cons, List.length_nil, Nat.zero_add, Nat.reduceAdd]
  go_wp2_with fail
  go_region_with (first | (go_at_call 33; refine (placeOf_any ranksStr _ _ (by decide)).mono ?_; rintro e w2 ⟨rfl, hB2⟩; rw [ranks_runes]; have hc2 := (hB2.cell (p := ⟨b, off + 1, none⟩) hblt).trans c1) | (go_at_call 34; refine (suitOf_any _ _).mono ?_; rintro e w3 ⟨rfl, hB3⟩))
  all_goals
    have hbd := plc_bd ranksL y 0
    have hsd := suF_bd x
    have e1 : ranksL.length = 13 := rfl
    rw [e1] at hbd
    obtain ⟨hb1, hb2⟩ := hbd
    obtain ⟨hs1, hs2⟩ := hsd
    have HB3 : Hid (Below w.heap.size w w3) := hide ((HB1.out.trans ((((Below.refl w1.heap.size w1).drew).trans (hB2.trans (hB3.mono hB2.size))).mono HB1.out.size)))
    clear hB2 hB3 hc2 c0 c1 e1
    obtain ⟨V, hV⟩ : ∃ V, V = plc ranksL y 0 := ⟨_, rfl⟩
    obtain ⟨S, hS⟩ : ∃ S, S = suF x := ⟨_, rfl⟩
    have HPV : Hid (readVal (plc ranksL y 0) (suF x) = readVal V S) := hide (by rw [hV, hS])
    rw [← hV] at hb1 hb2 ⊢
    rw [← hS] at hs1 hs2 ⊢
    clear hV hS
    by_cases hv : V < 0
    · go_wp2_with fail
      go_ret2
      exact ⟨by rw [HPV.out, readVal, if_pos (.inl hv)]; rfl, HB3.out⟩
    · by_cases hs : S < 0
      · go_wp2_with fail
        go_ret2
        exact ⟨by rw [HPV.out, readVal, if_pos (.inr hs)]; rfl, HB3.out⟩
      · go_wp2_with fail
        go_ret2
        exact ⟨by rw [HPV.out, readVal, if_neg (by omega)]; rfl, HB3.out⟩

set_option maxHeartbeats 1000000 in
theorem Read_ten (s : ByteArray) (x : Int) (w : World) (h : (runesOf s).take 4 = [49, 48, x]) :
    Calls Try.prog 10 #[.string s] w fun e w' => e = .returned (readVal (plc ranksL 84 0) (suF x)) ∧ Below w.heap.size w w' := by
  have HH := hide h
  clear h
  go_enter Try.func10, Try.ntmps10
  go_wp2_with fail
  refine (first_any s _).mono ?_
  rintro e w0 ⟨a, c, rfl, hR, hB1⟩
  rw [HH.out] at hR ⊢
  have HB0 := hide hB1
  clear hB1
  obtain ⟨b0, off0, rfl, hc⟩ := hR.cells (by simp)
  have c0 : w0.cell? ⟨b0, off0, none⟩ = some (.int .i32 49) := by have := hc 0 (by simp); simpa using this
  have c1 : w0.cell? ⟨b0, off0 + 1, none⟩ = some (.int .i32 48) := by have := hc 1 (by simp); simpa using this
  have c2 : w0.cell? ⟨b0, off0 + 2, none⟩ = some (.int .i32 x) := by have := hc 2 (by simp); simpa using this
  clear hc hR
  simp only [List.length_cons, List.length_nil, Nat.zero_add, Nat.reduceAdd]
  obtain ⟨w1, hw1⟩ : ∃ w1, w1 = w0.alloc (.cells #[.int .i32 84, .int .i32 x] 21) := ⟨_, rfl⟩
  have d0 : w1.cell? ⟨w0.heap.size, 0, none⟩ = some (.int .i32 84) := by rw [hw1, row_cell]; rfl
  have d1 : w1.cell? ⟨w0.heap.size, 1, none⟩ = some (.int .i32 x) := by rw [hw1, row_cell]; rfl
  have hsz1 : w1.heap.size = w0.heap.size + 1 := by rw [hw1]; simp
  have hblt1 : w0.heap.size < w1.heap.size := by omega
  have HB1 : Hid (Below w.heap.size w w1) := hide (by rw [hw1]; exact HB0.out.alloc HB0.out.size _)
  have HW1 := hide hw1
  clear hsz1 hw1
  go_wp2_with fail
  rw [← HW1.out]
  clear c0 c1 c2
  go_region_with (first | (go_at_call 33; refine (placeOf_any ranksStr _ _ (by decide)).mono ?_; rintro e w2 ⟨rfl, hB2⟩; rw [ranks_runes]; have hc2 := (hB2.cell (p := ⟨w0.heap.size, 1, none⟩) hblt1).trans d1) | (go_at_call 34; refine (suitOf_any _ _).mono ?_; rintro e w3 ⟨rfl, hB3⟩))
  all_goals
    have hbd := plc_bd ranksL 84 0
    have hsd := suF_bd x
    have e1 : ranksL.length = 13 := rfl
    rw [e1] at hbd
    obtain ⟨hb1, hb2⟩ := hbd
    obtain ⟨hs1, hs2⟩ := hsd
    have HB3 : Hid (Below w.heap.size w w3) := hide ((HB1.out.trans ((((Below.refl w1.heap.size w1).drew).trans (hB2.trans (hB3.mono hB2.size))).mono HB1.out.size)))
    clear hB2 hB3 hc2 d0 d1 e1
    obtain ⟨V, hV⟩ : ∃ V, V = plc ranksL 84 0 := ⟨_, rfl⟩
    obtain ⟨S, hS⟩ : ∃ S, S = suF x := ⟨_, rfl⟩
    have HPV : Hid (readVal (plc ranksL 84 0) (suF x) = readVal V S) := hide (by rw [hV, hS])
    rw [← hV] at hb1 hb2 ⊢
    rw [← hS] at hs1 hs2 ⊢
    clear hV hS
    by_cases hv : V < 0
    · go_wp2_with fail
      go_ret2
      exact ⟨by rw [HPV.out, readVal, if_pos (.inl hv)]; rfl, HB3.out⟩
    · by_cases hs : S < 0
      · go_wp2_with fail
        go_ret2
        exact ⟨by rw [HPV.out, readVal, if_pos (.inr hs)]; rfl, HB3.out⟩
      · go_wp2_with fail
        go_ret2
        exact ⟨by rw [HPV.out, readVal, if_neg (by omega)]; rfl, HB3.out⟩

set_option maxHeartbeats 1000000 in
theorem Read_bad (s : ByteArray) (w : World) (h1 : ∀ y x, (runesOf s).take 4 ≠ [y, x]) (h2 : ∀ x, (runesOf s).take 4 ≠ [49, 48, x]) :
    Calls Try.prog 10 #[.string s] w fun e w' => e = .returned (.tuple #[.int .i64 0, .int .i64 1]) ∧ Below w.heap.size w w' := by
  go_enter Try.func10, Try.ntmps10
  go_wp2_with fail
  refine (first_any s _).mono ?_
  rintro e w1 ⟨a, c, rfl, hR, hB1⟩
  have HB1 := hide hB1
  have HR := hide hR
  have H1 := hide h1
  have H2 := hide h2
  clear hB1 h1 h2 hR
  generalize (runesOf s).take 4 = L at *
  have hL2 : L.length ≠ 2 := by
    intro e
    match L, e with
    | [y, x], _ => exact H1.out y x rfl
  by_cases h3 : L.length = 3
  · obtain ⟨y0, y1, y2, rfl⟩ : ∃ y0 y1 y2, L = [y0, y1, y2] := by
      match L, h3 with
      | [y0, y1, y2], _ => exact ⟨_, _, _, rfl⟩
    obtain ⟨b, off, rfl, hc⟩ := HR.out.cells (by simp)
    have c0 : w1.cell? ⟨b, off, none⟩ = some (.int .i32 y0) := by have := hc 0 (by simp); simpa using this
    have c1 : w1.cell? ⟨b, off + 1, none⟩ = some (.int .i32 y1) := by have := hc 1 (by simp); simpa using this
    clear hc h3 hL2
    simp only [List.length_cons, List.length_nil, Nat.zero_add, Nat.reduceAdd]
    by_cases e0 : y0 = 49
    · have e1 : y1 ≠ 48 := fun e => H2.out y2 (by rw [e0, e])
      have b0 : (y0 == 49) = true := by simpa using e0
      have b1 : (y1 == 48) = false := by simpa using e1
      clear e0 e1
      go_wp2_with fail
      go_ret2
      exact ⟨rfl, HB1.out⟩
    · have b0 : (y0 == 49) = false := by simpa using e0
      clear e0
      go_wp2_with fail
      go_ret2
      exact ⟨rfl, HB1.out⟩
  · have hb3 : ((L.length : Int) == 3) = false := by simp; omega
    have hb2 : ((L.length : Int) != 2) = true := by simp; omega
    generalize L.length = N at *
    go_wp2_with fail
    go_ret2
    exact ⟨rfl, HB1.out⟩

end Go.Proofs.Ytdipbbcggccgcaa
