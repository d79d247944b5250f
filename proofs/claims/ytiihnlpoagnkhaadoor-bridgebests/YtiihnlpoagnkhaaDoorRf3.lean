/-
  What the document's BestTricks answers where the trick is not full. No conditions beyond those that each theorem bears.
-/
import Derived.Test.YtiihnlpoagnkhaaDoorRf2
import Derived.Deep.Cut
import Derived.Deep.CutRange
import Derived.Deep.DeepCutAuto
namespace Go.Proofs.YtiihnlpoagnkhaaDoor
open Go.RowKit Go.Shelf

/-- What the cards up to here lead to. -/
def bl (win : List Nat → Nat) (f : Nat) (H : Nat → List Nat) (who ld : Nat) (tr : List Nat) (i : Nat) : List Nat :=
  (((H who).take i).filter (okB (H who) tr)).map (fun c => bt win f (fun p => if p = who then (H p).erase c else H p) ld (tr ++ [c]))

/-- The best of them, or less than nothing. -/
def bz (win : List Nat → Nat) (f : Nat) (H : Nat → List Nat) (who ld : Nat) (tr : List Nat) (i : Nat) : Int :=
  if bl win f H who ld tr i = [] then -1 else ((mxn (decide (who % 2 = 0)) (bl win f H who ld tr i) : Nat) : Int)

theorem bl_next (win : List Nat → Nat) (f : Nat) (H : Nat → List Nat) (who ld : Nat) (tr : List Nat) (i : Nat) (hi : i < (H who).length) :
    bl win f H who ld tr (i + 1) = bl win f H who ld tr i ++ (if okB (H who) tr ((H who).getD i 0) = true then [bt win f (outH H who i) ld (tr ++ [(H who).getD i 0])] else []) := by
  have e : (H who).take (i + 1) = (H who).take i ++ [(H who).getD i 0] := by
    rw [List.take_add_one, List.getElem?_eq_getElem hi]
    simp [List.getD, hi]
  rw [bt_out win f H who i ld _ hi]
  unfold bl
  rw [e, List.filter_append, List.map_append]
  congr 1
  by_cases h : okB (H who) tr ((H who).getD i 0) = true
  · rw [if_pos h, List.filter_cons, if_pos h]
    rfl
  · rw [if_neg h, List.filter_cons, if_neg h]
    rfl

theorem bz_skip (win : List Nat → Nat) (f : Nat) (H : Nat → List Nat) (who ld : Nat) (tr : List Nat) (i : Nat) (hi : i < (H who).length) (ho : okB (H who) tr ((H who).getD i 0) = false) :
    bz win f H who ld tr (i + 1) = bz win f H who ld tr i := by
  have e := bl_next win f H who ld tr i hi
  rw [ho, if_neg (by simp), List.append_nil] at e
  unfold bz
  rw [e]

theorem bz_low (win : List Nat → Nat) (f : Nat) (H : Nat → List Nat) (who ld : Nat) (tr : List Nat) (i : Nat) : -1 ≤ bz win f H who ld tr i := by
  unfold bz
  split <;> omega

theorem bz_put (win : List Nat → Nat) (f : Nat) (H : Nat → List Nat) (who ld : Nat) (tr : List Nat) (i : Nat) (hi : i < (H who).length) (ho : okB (H who) tr ((H who).getD i 0) = true) (x : Nat) (hx : bt win f (outH H who i) ld (tr ++ [(H who).getD i 0]) = x) :
    bz win f H who ld tr (i + 1) = if bz win f H who ld tr i < 0 ∨ (who % 2 = 0 ∧ bz win f H who ld tr i < (x : Int)) ∨ (who % 2 = 1 ∧ (x : Int) < bz win f H who ld tr i) then (x : Int) else bz win f H who ld tr i := by
  have e := bl_next win f H who ld tr i hi
  rw [ho, if_pos rfl, hx] at e
  unfold bz
  rw [e]
  clear e
  generalize bl win f H who ld tr i = l
  by_cases h : l = []
  · subst h
    rw [if_neg (by simp), if_pos rfl, if_pos (Or.inl (by omega))]
    have : mxn (decide (who % 2 = 0)) ([] ++ [x]) = x := by
      have := mxn_mem (decide (who % 2 = 0)) ([] ++ [x]) (by simp)
      simpa using this
    rw [this]
  · rw [if_neg (by simp), if_neg h, mxn_snoc _ l h]
    generalize mxn (decide (who % 2 = 0)) l = m
    by_cases hp : who % 2 = 0
    · by_cases hm : m < x
      · rw [if_pos (Or.inl ⟨by simpa using hp, hm⟩), if_pos (Or.inr (Or.inl ⟨hp, by omega⟩))]
      · rw [if_neg (by simp [hp]; omega), if_neg (by omega)]
    · by_cases hm : x < m
      · rw [if_pos (Or.inr ⟨by simpa using hp, hm⟩), if_pos (Or.inr (Or.inr ⟨by omega, by omega⟩))]
      · rw [if_neg (by simp [hp]; omega), if_neg (by omega)]

theorem bz_end (win : List Nat → Nat) (f : Nat) (H : Nat → List Nat) (who ld : Nat) (tr : List Nat) (hw : (ld + tr.length) % 4 = who) (hk : tr.length < 4) (hne : H who ≠ []) :
    bz win f H who ld tr (H who).length = ((bt win (f + 1) H ld tr : Nat) : Int) := by
  have e : bl win f H who ld tr (H who).length = (mayL (H who) tr).map (fun c => bt win f (fun p => if p = who then (H p).erase c else H p) ld (tr ++ [c])) := by
    unfold bl
    rw [List.take_length, ok_may]
  unfold bz
  rw [e, if_neg (by simpa using mayL_ne (H who) tr hne), bt, if_neg (by omega), hw]

/-- The card that was led, or less than nothing. -/
def ledOf (tr : List Nat) : Int := if tr = [] then -1 else ((tr.getD 0 0 : Nat) : Int)

theorem led_ok (L tr : List Nat) (c : Nat) : (decide (ledOf tr < 0) || (!hasB L (ledOf tr).toNat || decide (c % 4 = (ledOf tr).toNat % 4))) = okB L tr c := by
  unfold ledOf okB
  by_cases h : tr = []
  · subst h
    simp
  · rw [if_neg h, Int.toNat_natCast]
    congr 1
    have h1 : decide (((tr.getD 0 0 : Nat) : Int) < 0) = false := by simp
    rw [h1]
    simpa using h

theorem Apart.low {w0 w : World} {a : Option Addr} {n c : Nat} {zs : List Int} (h : Rd w0 a n c zs) : Apart w w0.heap.size n a := by
  intro hn b off e
  obtain ⟨b', off', e2, hc⟩ := h.cells hn
  rw [e] at e2
  simp only [Option.some.injEq, Addr.mk.injEq] at e2
  obtain ⟨rfl, rfl, -⟩ := e2
  exact Or.inl (World.block_lt_of_cell? w0 _ (hc 0 hn))

theorem Apart.of_own {w : World} {base base' n c : Nat} {a : Option Addr} {xs : List Value} (h : w.ownsRow base' 3 1 (.slice a n c) n xs) : Apart w base n a := by
  intro hn b off e
  rcases h.2 with ⟨hv, h0⟩ | ⟨g, cap, cur, hv, _, hg, _⟩
  · omega
  · simp only [Value.slice.injEq] at hv
    rw [hv.1] at e
    simp only [Option.some.injEq, Addr.mk.injEq] at e
    obtain ⟨rfl, -, -⟩ := e
    exact Or.inr ⟨cur, hg⟩

theorem toI_out (L : List Nat) (i : Nat) : (toI L).take i ++ (toI L).drop (i + 1) = toI (L.take i ++ L.drop (i + 1)) := by
  simp [toI, List.map_take, List.map_drop]

set_option maxRecDepth 100000 in
set_option maxHeartbeats 4000000 in
theorem BT_mid (s : Int) (f : Nat) (ih : BT s f) (H : Nat → List Nat) (ld n b o c : Nat) (a : Option Addr) (ca : Nat) (tr : List Nat) (w : World) (hld : ld < 4) (hn : 1 ≤ n) (hn13 : n ≤ 13) (hk4 : tr.length < 4) (hE : Even4 H ld tr.length n) (hf : 5 * (n - 1) + (5 - tr.length) ≤ f + 1) (hH : HL w b o H) (hR : Rd w a tr.length ca (toI tr)) :
    Calls Tryd.prog 8 #[.slice (some ⟨b, o, none⟩) 4 c, .int .i64 s, .int .i64 ld, .slice a tr.length ca] w fun e w' => e = .returned (.int .i64 (bt (winF s) (f + 1) H ld tr : Nat)) ∧ Below w.heap.size w w' := by
  obtain ⟨i0, hi0, hz0, hz1, hz2⟩ := info_parts Tryd.info27
  obtain ⟨who, hwho⟩ : ∃ who, (ld + tr.length) % 4 = who := ⟨_, rfl⟩
  have hw4 : who < 4 := by omega
  have hlen : (H who).length = n := by
    have := hE who hw4
    rw [if_neg (by omega)] at this
    exact this
  have HE := hide (fun (i : Nat) (hi : i < n) => (by
    have := even_out H ld tr.length n i hld hk4 hn hE (by rw [hwho, hlen]; exact hi)
    rw [hwho] at this
    exact this : Even4 (outH H who i) ld (tr.length + 1) n))
  have HEND := hide (bz_end (winF s) f H who ld tr hwho hk4 (by intro e; rw [e] at hlen; simp at hlen; omega))
  have IH := hide (fun (i : Nat) (hi : i < n) (x : Nat) (g cg : Nat) (a' : Option Addr) (ca' : Nat) (W : World) (h1 : HL W g 0 (outH H who i)) (h2 : Rd W a' (tr.length + 1) ca' (toI (tr ++ [x]))) => (by
    have hl : (tr ++ [x]).length = tr.length + 1 := by simp
    have := ih (outH H who i) ld n g 0 cg a' ca' (tr ++ [x]) W hld hn hn13 (by rw [hl]; omega) (by rw [hl]; exact HE.out i hi) (by rw [hl]; omega) h1 (by rw [hl]; exact h2)
    rw [hl] at this
    exact this : Calls Tryd.prog 8 #[.slice (some ⟨g, 0, none⟩) 4 cg, .int .i64 s, .int .i64 ld, .slice a' (tr.length + 1) ca'] W fun e w' => e = .returned (.int .i64 (bt (winF s) f (outH H who i) ld (tr ++ [x]) : Nat)) ∧ Below W.heap.size W w'))
  have HLED : Hid (tr.length = 0 ∧ ledOf tr = -1 ∨ 0 < tr.length ∧ ledOf tr = ((tr.getD 0 0 : Nat) : Int)) := hide (by
    cases tr with
    | nil => exact Or.inl ⟨rfl, rfl⟩
    | cons t tr => exact Or.inr ⟨by simp, by simp [ledOf]⟩)
  have OK := hide (led_ok (H who) tr)
  have HT := hide hR
  have htr : Hid (∀ x : Nat, toI tr ++ [(x : Int)] = toI (tr ++ [x])) := hide (fun x => by simp [toI])
  generalize tr.length = kk at *
  have htm : Int.tmod ((ld : Int) + (kk : Int)) 4 = (who : Int) := by rw [Int.tmod_eq_emod_of_nonneg (by omega)]; omega
  have hk5 : ((kk : Int) == 4) = false := by simp; omega
  obtain ⟨r, hr⟩ : ∃ r, who % 2 = r := ⟨_, rfl⟩
  have hr2 : r < 2 := by omega
  have hpt : Int.tmod (who : Int) 2 = (r : Int) := by rw [Int.tmod_eq_emod_of_nonneg (by omega)]; omega
  have HRR := hide hr
  have HH := hide hH
  obtain ⟨aw, cw, hcw, hRw⟩ := hH.cell who hw4
  rw [hlen] at hcw hRw
  obtain ⟨hb, ho, rfl, hcells⟩ := hRw.cells (by omega)
  have hcap := hRw.cap
  have hmax := hRw.max
  unfold maxLen at hmax
  have hbs : b < w.heap.size := World.block_lt_of_cell? w _ hcw
  have HC := hide hcw
  have HRW := hide hRw
  have HLEN := hide hlen
  obtain ⟨led, hled⟩ : ∃ led, ledOf tr = led := ⟨_, rfl⟩
  rw [hled] at HLED OK
  clear hE hH hR hcw hRw hcells hlen hled hwho hr ih HE
  go_enter Tryd.func8, Tryd.ntmps8
  go_upto_if 51 with fail
  go_cut [12] (fun q wc => q = .int .i64 led ∧ wc = w)
  case first =>
    rcases HLED.out with ⟨h1, h2⟩ | ⟨h1, h2⟩
    · have hk0 : ¬ (0 : Int) < (kk : Int) := by omega
      have H2 := hide h2
      clear h1 h2
      go_wp2_with fail
      go_meet
      case rel => exact ⟨by rw [H2.out], rfl⟩
    · have hk0 : (0 : Int) < (kk : Int) := by omega
      obtain ⟨tb, tO, rfl, hcl⟩ := HT.out.cells h1
      have c0 := hcl 0 h1
      rw [toI_getD, Nat.add_zero] at c0
      have H2 := hide h2
      clear h1 h2 hcl
      generalize tr.getD 0 0 = t0 at *
      go_wp2_with fail
      go_meet
      case rel => exact ⟨by rw [H2.out], rfl⟩
  case rest =>
    obtain ⟨rfl, hwc⟩ := hcut
    have hwc' := hwc.symm
    subst hwc'
    clear hwc
    clear HLED
    go_wp2_with fail
    go_loopw [13, 14] (fun v13 v14 wr => ∃ (i : Nat) (z : Int), v14 = .int .i64 i ∧ v13 = .int .i64 z ∧ i ≤ n ∧ Hid (z = bz (winF s) f H who ld tr i) ∧ Hid (Below w.heap.size w wr)) (fun _ v _ => n - (intOf v).toNat)
    case atStart => exact ⟨0, -1, rfl, rfl, by omega, rfl, Below.refl _ _⟩
    case round =>
      obtain ⟨w9, h9⟩ : ∃ w9, w9 = wr := ⟨wr, rfl⟩
      subst h9
      obtain ⟨i, z, rfl, rfl, hi, hz, hB⟩ := hrel
      have cw0 : w9.cell? ⟨b, o + who, none⟩ = some (.slice (some ⟨hb, ho, none⟩) n cw) := (hB.out.cell (p := ⟨b, o + who, none⟩) hbs).trans HC.out
      by_cases hin : i < n
      · have hlt : (i : Int) < (n : Int) := by omega
        have RW := hide (HRW.out.mono hB.out)
        obtain ⟨x, hx⟩ : ∃ x, (H who).getD i 0 = x := ⟨_, rfl⟩
        have cx : w9.cell? ⟨hb, ho + i, none⟩ = some (.int .i64 (x : Nat)) := by
          have := RW.out.cell (i := i) hin
          rw [toI_getD, hx] at this
          exact this.2
        have PM := hide (PlayMay_any (some ⟨hb, ho, none⟩) n cw (H who) led x w9 RW.out)
        rw [OK.out x] at PM
        have BS := hide (bz_skip (winF s) f H who ld tr i (by rw [HLEN.out]; exact hin))
        have BP := hide (bz_put (winF s) f H who ld tr i (by rw [HLEN.out]; exact hin))
        rw [hx] at BS BP
        have HX := hide hx
        clear hx
        by_cases hok : okB (H who) tr x = true
        · rw [hok] at PM BS BP
          clear BS hok
          go_wp2_with fail
          refine PM.out.mono ?_
          rintro e w1 ⟨rfl, hw⟩
          subst w1
          clear PM
          go_wp2_with fail
          have hbs9 : b < w9.heap.size := World.block_lt_of_cell? w9 _ cw0
          have CX := hide cx
          clear cx
          obtain ⟨Q, hQ⟩ : ∃ Q, i + 1 = Q := ⟨_, rfl⟩
          have hwrQ : IntKind.i64.wrap ((i : Int) + 1) = (Q : Int) := by rw [IntKind.wrap_i64]; omega
          have hQn : Q ≤ n := by omega
          have hQc : Q ≤ cw := by omega
          have HQ := hide hQ
          have hic : i ≤ cw := by omega
          have hic2 : ¬ cw < i := by omega
          clear hQ
          go_loopw [16, 17] (fun v16 v17 wq => ∃ (k : Nat), v17 = .int .i64 k ∧ k ≤ 4 ∧ (∃ ad cc, v16 = .slice ad k cc) ∧ Hid (Nx wq w9.heap.size v16 k (outH H who i)) ∧ Hid (Below w9.heap.size w9 wq)) (fun _ v _ => 4 - (intOf v).toNat)
          case atStart => exact ⟨0, rfl, by omega, ⟨_, _, rfl⟩, ⟨[], World.ownsRow_nil _ _ _ _, fun j hj => by omega⟩, Below.refl _ _⟩
          case round =>
            obtain ⟨k, rfl, hk, ⟨ad, cc, rfl⟩, hN, hBq⟩ := hrel
            by_cases hk4' : k < 4
            · have hlt4 : (k : Int) < 4 := by omega
              by_cases hkw : k = who
              · have hkw' := hkw.symm
                subst hkw'
                clear hkw
                have cq : wr.cell? ⟨b, o + who, none⟩ = some (.slice (some ⟨hb, ho, none⟩) n cw) := (hBq.out.cell (p := ⟨b, o + who, none⟩) hbs9).trans cw0
                have RWq := RW.out.mono hBq.out
                have RF0 := RWq.drew.from hQn
                simp only [Option.map_some, Addr.add_lit] at RF0
                have RF := hide RF0
                have RU := hide (RWq.drew.upto (show i ≤ n by omega))
                clear RF0 RWq
                go_wp2_with fail
                refine wp_region_held (S := fun W => W.cell? ⟨b, o + who, none⟩ = some (.slice (some ⟨hb, ho, none⟩) n cw)) (by kernel_rfl) ?_
                change wpAnyH _ _ _ _ _ _ _ _ (World.drew _)
                have SW : wr.drew.cell? ⟨b, o + who, none⟩ = some (.slice (some ⟨hb, ho, none⟩) n cw) := cq
                have HCQ := hide cq
                clear cq
                refine wpAnyH_take (i := 0) (v := .slice ad who cc) rfl (by kernel_rfl) (by kernel_rfl) (by kernel_rfl) (fun _ _ _ h => h) (Or.inl ⟨by rfl, ?_⟩) SW ?_
                · intro W hW
                  clear hW
                  go_simp
                go_simp
                refine wpAnyH_take (i := 1) (v := .slice (some ⟨b, o, none⟩) 4 c) rfl (by kernel_rfl) (by kernel_rfl) (by kernel_rfl) (fun _ _ _ h => h) (Or.inl ⟨by rfl, ?_⟩) SW ?_
                · intro W hW
                  clear hW
                  go_simp
                go_simp
                refine wpAnyH_take (i := 2) (v := .int .i64 who) rfl (by kernel_rfl) (by kernel_rfl) (by kernel_rfl) (fun _ _ _ h => h) (Or.inl ⟨by rfl, ?_⟩) SW ?_
                · intro W hW
                  clear hW
                  go_simp
                go_simp
                refine wpAnyH_take (i := 3) (v := .pointer (some ⟨b, o + who, none⟩)) rfl (by kernel_rfl) (by kernel_rfl) (by kernel_rfl) (fun _ _ _ h => h) (Or.inl ⟨by rfl, ?_⟩) SW ?_
                · intro W hW
                  clear hW
                  go_simp
                go_simp
                refine wpAnyH_take (i := 4) (v := .slice (some ⟨hb, ho, none⟩) n cw) rfl (by kernel_rfl) (by kernel_rfl) (by kernel_rfl) (fun _ _ _ h => h) (Or.inl ⟨by rfl, ?_⟩) SW ?_
                · intro W hW
                  go_simp
                go_simp
                refine wpAnyH_take (i := 5) (v := .int .i64 i) rfl (by kernel_rfl) (by kernel_rfl) (by kernel_rfl) (fun _ _ _ h => h) (Or.inl ⟨by rfl, ?_⟩) SW ?_
                · intro W hW
                  clear hW
                  go_simp
                go_simp
                refine wpAnyH_take (i := 6) (v := .slice (some ⟨hb, ho, none⟩) i cw) rfl (by kernel_rfl) (by kernel_rfl) (by kernel_rfl) (fun _ _ _ h => h) (Or.inl ⟨by rfl, ?_⟩) SW ?_
                · intro W hW
                  clear hW
                  go_simp
                go_simp
                refine wpAnyH_take (i := 8) (v := .slice (some ⟨b, o, none⟩) 4 c) rfl (by kernel_rfl) (by kernel_rfl) (by kernel_rfl) (fun _ _ _ h => h) (Or.inl ⟨by rfl, ?_⟩) SW ?_
                · intro W hW
                  clear hW
                  go_simp
                go_simp
                refine wpAnyH_take (i := 9) (v := .int .i64 who) rfl (by kernel_rfl) (by kernel_rfl) (by kernel_rfl) (fun _ _ _ h => h) (Or.inl ⟨by rfl, ?_⟩) SW ?_
                · intro W hW
                  clear hW
                  go_simp
                go_simp
                refine wpAnyH_take (i := 10) (v := .pointer (some ⟨b, o + who, none⟩)) rfl (by kernel_rfl) (by kernel_rfl) (by kernel_rfl) (fun _ _ _ h => h) (Or.inl ⟨by rfl, ?_⟩) SW ?_
                · intro W hW
                  clear hW
                  go_simp
                go_simp
                refine wpAnyH_take (i := 11) (v := .slice (some ⟨hb, ho, none⟩) n cw) rfl (by kernel_rfl) (by kernel_rfl) (by kernel_rfl) (fun _ _ _ h => h) (Or.inl ⟨by rfl, ?_⟩) SW ?_
                · intro W hW
                  go_simp
                go_simp
                refine wpAnyH_take (i := 12) (v := .int .i64 i) rfl (by kernel_rfl) (by kernel_rfl) (by kernel_rfl) (fun _ _ _ h => h) (Or.inl ⟨by rfl, ?_⟩) SW ?_
                · intro W hW
                  clear hW
                  go_simp
                go_simp
                refine wpAnyH_take (i := 13) (v := .int .i64 Q) rfl (by kernel_rfl) (by kernel_rfl) (by kernel_rfl) (fun _ _ _ h => h) (Or.inl ⟨by rfl, ?_⟩) SW ?_
                · intro W hW
                  clear hW
                  go_simp
                go_simp
                refine wpAnyH_take (i := 14) (v := .slice (if cw = Q then some ⟨hb, ho, none⟩ else some ⟨hb, ho + Q, none⟩) (n - Q) (cw - Q)) rfl (by kernel_rfl) (by kernel_rfl) (by kernel_rfl) (fun _ _ _ h => h) (Or.inl ⟨by rfl, ?_⟩) SW ?_
                · intro W hW
                  clear hW
                  go_simp
                go_simp
                obtain ⟨af, haf⟩ : ∃ af, af = (if cw = Q then some (⟨hb, ho, none⟩ : Addr) else some ⟨hb, ho + Q, none⟩) := ⟨_, rfl⟩
                rw [← haf] at RF
                rw [← haf]
                clear haf
                refine wpAnyH_ready (rs := [7]) (by kernel_rfl) (by simp) ?_
                refine AllReadyH.cons rfl (fun K1 hK1 => ?_) AllReadyH.nil
                go_simp
                refine (refInts_own (some ⟨hb, ho, none⟩) i cw _ wr.drew RU.out (by omega)).mono ?_
                rintro e w1 ⟨a1, c1, rfl, own1, B1⟩
                have X1 : Below wr.heap.size wr w1 := ((Below.refl _ wr).drew).trans B1
                have SW1 : w1.cell? ⟨b, o + who, none⟩ = some (.slice (some ⟨hb, ho, none⟩) n cw) := (B1.cell (p := ⟨b, o + who, none⟩) (World.block_lt_of_cell? _ _ SW)).trans SW
                refine hK1.out _ _ SW1 (fun SW => ?_)
                have RF1 := hide (RF.out.mono B1)
                have X1 := hide X1
                have OW1 := hide own1
                clear hK1 K1 SW1 own1 B1 RF RU
                go_simp
                have hbq : b < wr.heap.size := World.block_lt_of_cell? wr _ HCQ.out
                refine wpAnyH_ready (rs := [15]) (by kernel_rfl) (by simp) ?_
                refine AllReadyH.cons rfl (fun K1 hK1 => ?_) AllReadyH.nil
                rw [if_pos (by rfl)]
                refine wp_append_rd _ (.tmp 100) (.tmp 107) rfl wr.heap.size _ i _ rfl OW1.out af (n - Q) (cw - Q) _ rfl RF1.out (by omega) X1.out.size ?_
                intro v2 w2 O2 G2
                obtain ⟨m2, hm2⟩ : ∃ m2, i + (n - Q) = m2 := ⟨_, rfl⟩
                rw [hm2] at O2
                obtain ⟨a2, c2, hv2⟩ := slice_form O2
                subst hv2
                have X2 := hide (X1.out.grown G2 X1.out.size (fun j hj => (OW1.out.lt j hj).1))
                have SW2 : w2.cell? ⟨b, o + who, none⟩ = some (.slice (some ⟨hb, ho, none⟩) n cw) := (X2.out.cell (p := ⟨b, o + who, none⟩) hbq).trans HCQ.out
                refine hK1.out _ _ SW2 (fun SW => ?_)
                have O2 := hide O2
                have HM2 := hide hm2
                clear hK1 K1 SW2 G2 OW1 X1 RF1 hm2
                go_simp
                refine wpAnyH_ready (rs := [16]) (by kernel_rfl) (by simp) ?_
                refine AllReadyH.cons rfl (fun K1 hK1 => ?_) AllReadyH.nil
                go_simp
                have X3 : Below wr.heap.size wr (w2.alloc (Obj.cells #[.slice a2 m2 c2] 27)) := X2.out.alloc X2.out.size _
                have SW3 : (w2.alloc (Obj.cells #[.slice a2 m2 c2] 27)).cell? ⟨b, o + who, none⟩ = some (.slice (some ⟨hb, ho, none⟩) n cw) := (X3.cell (p := ⟨b, o + who, none⟩) hbq).trans HCQ.out
                refine hK1.out _ _ SW3 (fun SW => ?_)
                have ON := hide (one_news w2 (.slice a2 m2 c2))
                have O3 := hide (O2.out.alloc (Obj.cells #[.slice a2 m2 c2] 27))
                have X3 := hide X3
                clear hK1 K1 SW3 X2 O2
                generalize w2.alloc (Obj.cells #[.slice a2 m2 c2] 27) = W3 at *
                obtain ⟨vs, N1, N2⟩ := hN.out.below X3.out
                have N1 := hide N1
                have N2 := hide N2
                refine wpAnyH_ready (rs := [17]) (by kernel_rfl) (by simp) ?_
                refine AllReadyH.cons rfl (fun K1 hK1 => ?_) AllReadyH.nil
                rw [if_pos (by rfl)]
                refine wp_append_own _ (.tmp 93) (.tmp 109) 22 rfl w9.heap.size 27 i0 (.slice none 0 0) 1 24 Tryd.underlying22 hi0 hz0 hz1 hz2 rfl (by decide) _ who vs rfl N1.out ⟨w2.heap.size, 0, none⟩ 1 1 [.slice a2 m2 c2] rfl (by simp) ON.out (by simp [Value.oneCell']) (by unfold maxLen; omega) (by omega) (by have := hBq.out.size; have := X3.out.size; omega) ?_
                intro v4 w4 O4 G4 _
                obtain ⟨a4, c4, hv4⟩ := form27 O4
                subst hv4
                have X30 := hBq.out.trans (X3.out.mono hBq.out.size)
                have X4 := hide (X30.grown G4 X30.size (fun j hj => (N1.out.lt j hj).1))
                have SW4 : w4.cell? ⟨b, o + who, none⟩ = some (.slice (some ⟨hb, ho, none⟩) n cw) := (X4.out.cell (p := ⟨b, o + who, none⟩) hbs9).trans cw0
                have he2 : outH H who i who = (H who).take i ++ (H who).drop (i + 1) := by simp [outH]
                have hl2 : (outH H who i who).length = m2 := by
                  rw [he2, List.length_append, List.length_take, List.length_drop, HLEN.out, ← HM2.out, ← HQ.out]
                  omega
                have NX4 := hide (Nx.push (H := outH H who i) N1.out N2.out (a := a2) (cc := c2) (by
                  rw [hl2, he2, ← toI_out, HQ.out]
                  exact Rd.of_own O3.out) (by rw [hl2]; exact Apart.of_own O3.out) (by rw [hl2]; exact O4) G4)
                refine hK1.out _ _ SW4 (fun SW => ?_)
                clear hK1 K1 SW4 he2 hl2 X30 G4 O4 N1 N2 O3 ON X3
                go_simp
                refine wpAnyH_take (i := 18) (v := .slice a4 (who + 1) c4) rfl (by kernel_rfl) (by kernel_rfl) (by kernel_rfl) (fun _ _ _ h => h) (Or.inl ⟨by rfl, ?_⟩) SW ?_
                · intro W hW
                  clear hW
                  go_simp
                go_simp
                refine wpAnyH_done (by kernel_rfl) ?_ _
                clear SW hN hBq
                go_wp2
                exact ⟨⟨who + 1, by go_num, by omega, ⟨_, _, rfl⟩, NX4.out, X4.out⟩, by simp [intOf]; omega⟩
              · obtain ⟨ak, ck, hck, hRk⟩ := HH.out.cell k hk4'
                obtain ⟨nk, hnk⟩ : ∃ nk, (H k).length = nk := ⟨_, rfl⟩
                rw [hnk] at hck hRk
                have hBr := hB.out.trans (hBq.out.mono hB.out.size)
                have ckr : wr.cell? ⟨b, o + k, none⟩ = some (.slice ak nk ck) := (hBr.cell (p := ⟨b, o + k, none⟩) hbs).trans hck
                have hR9 := hide (hRk.mono hB.out)
                have hRr := hide ((hRk.mono hBr).mono ((Below.refl _ wr).alloc (Nat.le_refl _) (.cells #[.slice ak nk ck] 27)))
                obtain ⟨vs, N1, N2⟩ := hN.out.below ((Below.refl _ wr).alloc (Nat.le_refl _) (.cells #[.slice ak nk ck] 27))
                have N1 := hide N1
                have N2 := hide N2
                have he2 : outH H who i k = H k := by simp [outH, hkw]
                have HE2 := hide he2
                have HNK := hide hnk
                have hne : ((k : Int) == (who : Int)) = false := by simp; omega
                clear hck hRk hBr he2 hnk
                go_wp2_with (at_builtin; refine wpList_append_own _ rfl (.tmp 86) (.tmp 91) 22 rfl w9.heap.size 27 i0 (.slice none 0 0) 1 24 Tryd.underlying22 hi0 hz0 hz1 hz2 rfl (by decide) _ k vs rfl N1.out ⟨wr.heap.size, 0, none⟩ 1 1 [.slice ak nk ck] rfl (by simp) (one_news _ _) (by simp [Value.oneCell']) (by unfold maxLen; omega) (by omega) (by have := hBq.out.size; simp; omega) ?_)
                intro v4 w4 O4 G4 _
                obtain ⟨a4, c4, hv4⟩ := form27 O4
                subst hv4
                have X30 := hBq.out.alloc hBq.out.size (.cells #[.slice ak nk ck] 27)
                have X4 := hide (X30.grown G4 X30.size (fun j hj => (N1.out.lt j hj).1))
                have hl2 : (outH H who i k).length = nk := by rw [HE2.out, HNK.out]
                have NX4 := hide (Nx.push (H := outH H who i) N1.out N2.out (a := ak) (cc := ck) (by rw [hl2, HE2.out]; exact hRr.out) (by rw [hl2]; exact Apart.low hR9.out) (by rw [hl2]; exact O4) G4)
                clear hl2 X30 G4 O4 N1 N2 hN hBq ckr
                go_wp2
                exact ⟨⟨k + 1, by go_num, by omega, ⟨_, _, rfl⟩, NX4.out, X4.out⟩, by simp [intOf]; omega⟩
            · obtain rfl : k = 4 := by omega
              rw [show (((4 : Nat)) : Int) = (4 : Int) from rfl]
              obtain ⟨g, rfl⟩ : ∃ g, ad = some ⟨g, 0, none⟩ := by
                obtain ⟨vs, N1, -⟩ := hN.out
                rcases N1.2 with ⟨hv, h0⟩ | ⟨g, cap, cur, hv, _⟩
                · omega
                · simp only [Value.slice.injEq] at hv
                  exact ⟨g, hv.1⟩
              have HG := hide hN.out.hl
              have hBr := hB.out.trans (hBq.out.mono hB.out.size)
              have INTS := hide (refInts_own a kk ca (toI tr) wr (HT.out.mono hBr) (by omega))
              have HBR := hide hBr
              clear hBr
              go_wp2_with fail
              refine INTS.out.mono ?_
              rintro e w1 ⟨a1, c1, rfl, own1, B1⟩
              have OW1 := hide own1
              have HB1 := hide B1
              clear own1 B1 INTS
              go_wp2_with (at_builtin; refine wpList_append_rd _ rfl (.tmp 115) (.tmp 117) rfl wr.heap.size _ kk (toI tr) rfl (OW1.out.alloc _) _ 1 1 [(x : Int)] rfl (Rd_one _ _) (by omega) (by have := HB1.out.size; simp; omega) ?_)
              intro v2 w2 O2 G2
              obtain ⟨a2, c2, hv2⟩ := slice_form O2
              subst hv2
              have X10 := HB1.out.alloc HB1.out.size (.cells #[.int .i64 (x : Int)] 3)
              have X2 : Hid (Below wr.heap.size wr w2) := hide (X10.grown G2 X10.size (fun j hj => (OW1.out.lt j hj).1))
              have R2 : Rd w2 a2 (kk + 1) c2 (toI (tr ++ [x])) := by
                rw [← htr.out x]
                exact Rd.of_own (base := wr.heap.size) (by rw [List.map_append]; exact O2)
              have CALL := hide (IH.out i hin x g cc a2 c2 w2 (HG.out.below X2.out) R2)
              have HB2 := hide (HBR.out.trans (X2.out.mono HBR.out.size))
              clear X10 G2 O2 R2 OW1 HB1 X2 HG HBR hN hBq
              go_wp2_with fail
              refine CALL.out.mono ?_
              rintro e w3 ⟨rfl, B3⟩
              have HB3 := hide (HB2.out.trans (B3.mono HB2.out.size))
              clear B3 HB2 CALL
              obtain ⟨y, hy⟩ : ∃ y, bt (winF s) f (outH H who i) ld (tr ++ [x]) = y := ⟨_, rfl⟩
              have BQ := BP.out (by trivial) y hy
              rw [hy]
              rw [← hz.out, HRR.out] at BQ
              have BQ := hide BQ
              clear hy BP
              by_cases hz0' : z < 0
              · have BR := hide (BQ.out.trans (if_pos (Or.inl hz0')))
                clear BQ
                go_wp2
                exact ⟨⟨Q, y, by go_num, rfl, by omega, by rw [← HQ.out]; exact BR.out.symm, HB3.out⟩, by have := HQ.out; simp [intOf]; omega⟩
              · rcases (show r = 0 ∨ r = 1 by omega) with hr0 | hr0
                · subst hr0
                  by_cases hzy : z < (y : Int)
                  · have BR := hide (BQ.out.trans (if_pos (Or.inr (Or.inl ⟨rfl, hzy⟩))))
                    clear BQ
                    go_wp2
                    exact ⟨⟨Q, y, by go_num, rfl, by omega, by rw [← HQ.out]; exact BR.out.symm, HB3.out⟩, by have := HQ.out; simp [intOf]; omega⟩
                  · have BR := hide (BQ.out.trans (if_neg (by omega)))
                    clear BQ
                    go_wp2
                    exact ⟨⟨Q, z, by go_num, rfl, by omega, by rw [← HQ.out]; exact BR.out.symm, HB3.out⟩, by have := HQ.out; simp [intOf]; omega⟩
                · subst hr0
                  by_cases hzy : (y : Int) < z
                  · have BR := hide (BQ.out.trans (if_pos (Or.inr (Or.inr ⟨rfl, hzy⟩))))
                    clear BQ
                    go_wp2
                    exact ⟨⟨Q, y, by go_num, rfl, by omega, by rw [← HQ.out]; exact BR.out.symm, HB3.out⟩, by have := HQ.out; simp [intOf]; omega⟩
                  · have BR := hide (BQ.out.trans (if_neg (by omega)))
                    clear BQ
                    go_wp2
                    exact ⟨⟨Q, z, by go_num, rfl, by omega, by rw [← HQ.out]; exact BR.out.symm, HB3.out⟩, by have := HQ.out; simp [intOf]; omega⟩
        · have hok' : okB (H who) tr x = false := by simpa using hok
          rw [hok'] at PM BS
          clear BP hok hok'
          go_wp2_with fail
          refine PM.out.mono ?_
          rintro e w1 ⟨rfl, hw⟩
          subst w1
          clear PM
          go_wp2
          exact ⟨⟨i + 1, z, by go_num, rfl, by omega, by rw [BS.out (by trivial)]; exact hz, hB⟩, by simp [intOf]; omega⟩
      · have hge : ¬ (i : Int) < (n : Int) := by omega
        obtain rfl : i = n := by omega
        go_wp2
        go_ret
        refine ⟨?_, hB.out⟩
        rw [hz.out, ← HEND.out, HLEN.out]
        rfl

theorem BT_all (s : Int) : ∀ f, BT s f := by
  intro f
  induction f with
  | zero => intro H ld n b o c a ca tr w _ hn _ hk _ hf; omega
  | succ f ih =>
    intro H ld n b o c a ca tr w hld hn hn13 hk hE hf hH hR
    by_cases h4 : tr.length = 4
    · rw [h4] at hE hf hR ⊢
      exact BT_end s f ih H ld n b o c a ca tr w hld hn hn13 h4 hE (by omega) hH hR
    · exact BT_mid s f ih H ld n b o c a ca tr w hld hn hn13 (by omega) hE hf hH hR

end Go.Proofs.YtiihnlpoagnkhaaDoor
