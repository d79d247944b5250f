/-
  A move, as the document makes it. No conditions beyond those that each theorem bears.
-/
import Derived.Test.YticalbpohhpjaaaDoorDo
namespace Go.Proofs.YticalbpohhpjaaaDoor
open Go.RowKit

theorem GridOf_bw (W H : Int) (a : Option Addr) (n c : Nat) (zs : List Int) (w : World) (h : Rd w a n c zs) (hn : 0 < n ∧ n ≤ 25) :
    Calls Tryd.prog 8 #[.agg (gdA W H a n c)] w fun e w' => ∃ cb c', e = .returned (.agg (gdA W H (some ⟨cb, 0, none⟩) n c')) ∧ Bw w' cb n c' zs ∧ w.heap.size ≤ cb ∧ Below w.heap.size w w' :=
  (GridOf_own W H a n c zs w h (by omega)).mono fun e w' ⟨a', c', he, ho, hb⟩ => by
    rcases ho.2 with ⟨hv, h0⟩ | ⟨g, cap, cur, hv, hgb, hgg, _⟩
    · have := h.len
      omega
    · simp only [Value.slice.injEq] at hv
      obtain ⟨rfl, -, rfl⟩ := hv
      exact ⟨g, c', he, own_base ho (Nat.zero_le _), hgb, hb⟩

theorem wp_storeG {o : Oper} {a : Act} {w : World} {K : Act → World → Prop} {Q : Exit → Act → World → Prop} (x y : Operand) (ho : o.op = .store 24 x y)
    (b : Nat) {W H : Int} {ad : Option Addr} {n c : Nat} {W' H' : Int} {ad' : Option Addr} {n' c' : Nat} (hx : a.eval x = .pointer (some ⟨b, 0, none⟩)) (hy : a.eval y = .agg (gdA W H ad n c)) (hb : Gd w b W' H' ad' n' c')
    (h : ∀ w', Gd w' b W H ad n c → Keeps (fun k => k = b) w w' → K (a.put o.dst undef) w') : o.wp Tryd.prog a w K Q := by
  have hb' : w.heap[b]? = _ := hb
  refine wp_store_row 24 x y ho b (gdA W H ad n c) hx hy 24 _ hb' size24 rfl (by simp [Value.oneCell']) ?_
  refine h _ ?_ ?_
  · simp [Gd, World.setRow, Array.getElem?_modify, hb']
  · exact ⟨rfl, rfl, rfl, by simp [World.setRow], fun k _ hk => by simp [World.setRow, Array.getElem?_modify, show ¬ b = k from fun e => hk e.symm]⟩

theorem results_g1 {fn : Func} {t u : Tmp} (h : fn.results = #[.cell t 24, .tmp u]) (tmps : Array Value) (w : World) (b : Nat) (hb : tmps.getD t undef = .pointer (some ⟨b, 0, none⟩)) {W H : Int} {ad : Option Addr} {n c : Nat} (hr : Gd w b W H ad n c) {v : Value} (hv : tmps.getD u undef = v) :
    (results fn tmps).run Tryd.prog w = .ok (.tuple #[.agg (gdA W H ad n c), v]) w := by
  have hb' : tmps[t]?.getD undef = .pointer (some ⟨b, 0, none⟩) := by simpa using hb
  have h1 : tmps[u]?.getD undef = v := by simpa using hv
  have hl := run_loadVar_row (P := Tryd.prog) w b 24 24 (gdA W H ad n c) (0, 0) _ hr Tryd.underlying24 rfl size24
  simp [results, h, hb', h1, asAddr, hl]

/-- What a row reads behind a move that may be none. -/
def stpZ (W H : Nat) (Z : List Int) (g : Nat) (d : Int) : List Int := if canD W H g d = true then mvl Z g (frm W H g d.toNat).toNat else Z

theorem stpZ_yes {W H : Nat} {Z : List Int} {g : Nat} {d : Int} (h : canD W H g d = true) : stpZ W H Z g d = mvl Z g (frm W H g d.toNat).toNat := if_pos h
theorem stpZ_no {W H : Nat} {Z : List Int} {g : Nat} {d : Int} (h : canD W H g d = false) : stpZ W H Z g d = Z := if_neg (by rw [h]; simp)

theorem gap_lt {zs : List Int} {g n : Nat} (hl : zs.length = n) (hg : ix zs 0 = g) : g < n ∧ zs.getD g 0 = 0 := by
  obtain ⟨k, e, hk, hz⟩ := ix_at (ix_mem.1 (show 0 ≤ ix zs 0 by omega))
  obtain rfl : g = k := by omega
  exact ⟨by omega, hz⟩

set_option maxHeartbeats 8000000 in
theorem SlideMove_any (W H : Nat) (a : Option Addr) (n c g : Nat) (zs : List Int) (d : Int) (w : World) (h : Rd w a n c zs) (hu : 2 ≤ W ∧ W ≤ 5) (hv : 2 ≤ H ∧ H ≤ 5) (hN : W * H = n) (hg : ix zs 0 = g) :
    Calls Tryd.prog 15 #[.agg (gdA W H a n c), .int .i64 d] w fun e w' => ∃ cb c', e = .returned (.tuple #[.agg (gdA W H (some ⟨cb, 0, none⟩) n c'), .bool (canD W H g d)]) ∧ Bw w' cb n c' (stpZ W H zs g d) ∧ Below w.heap.size w w' := by
  have hlen := h.len
  obtain ⟨hgn, hg0⟩ := gap_lt hlen hg
  have hb := len_bd hu hv hN
  have hcap := h.cap
  have hmax := h.max
  unfold maxLen at hmax
  obtain ⟨ab, aoff, rfl, -⟩ := h.cells (by omega)
  obtain ⟨w1, hw1⟩ : ∃ w1, (w.alloc (.cells (gdA W H (some ⟨ab, aoff, none⟩) n c) 24)).alloc (.cells (gdA 0 0 none 0 0) 24) = w1 := ⟨_, rfl⟩
  have B1 : Below w.heap.size w w1 := by rw [← hw1]; exact ((Below.refl _ _).alloc (Nat.le_refl _) _).alloc (by simp) _
  have HB1 := hide B1
  have K1 : Gd w1 w.heap.size W H (some ⟨ab, aoff, none⟩) n c := by rw [← hw1]; exact (Gd.new _ _ _ _ _ _).old _
  have K2 : Gd w1 (w.heap.size + 1) 0 0 none 0 0 := by
    rw [← hw1]
    have := Gd.new (w.alloc (.cells (gdA W H (some ⟨ab, aoff, none⟩) n c) 24)) 0 0 none 0 0
    rw [World.size_alloc] at this
    exact this
  have hs1 : w1.heap.size = w.heap.size + 1 + 1 := by rw [← hw1]; simp
  have HR1 := hide (h.mono B1)
  have hab : ab < w.heap.size := by
    obtain ⟨b', off', e', hc⟩ := h.cells (by omega)
    cases e'
    exact World.block_lt_of_cell? w _ (hc 0 (by omega))
  clear h B1
  go_enter Tryd.func15, Tryd.ntmps15
  go_upto_region 1 with fail
  clear hw1
  go_wp2_with (refine wpList_load_gd rfl (.tmp 2) rfl w.heap.size rfl K1 ?_)
  refine (GridOf_bw W H _ n c zs w1 HR1.out (by omega)).mono ?_
  rintro e w2 ⟨cb, c', rfl, hBw, hcb, hb2⟩
  have K12 := K1.below hb2 (by omega)
  have K22 := K2.below hb2 (by omega)
  have HB2 := hide (HB1.out.trans (hb2.mono HB1.out.size))
  have HR2 := hide (HR1.out.mono hb2)
  have HW2 := hide hBw
  have hs2 := hb2.size
  clear K1 K2 HB1 HR1 hb2 hBw
  go_upto_region 2 with fail
  obtain ⟨w3, hw3⟩ : ∃ w3, w2.alloc (Obj.cells (gdA W H (some ⟨cb, 0, none⟩) n c') 24) = w3 := ⟨_, rfl⟩
  rw [hw3]
  have B23 : Below w2.heap.size w2 w3 := by rw [← hw3]; exact (Below.refl _ w2).alloc (Nat.le_refl _) _
  have K3 : Gd w3 w2.heap.size W H (some ⟨cb, 0, none⟩) n c' := by rw [← hw3]; exact Gd.new _ _ _ _ _ _
  have K13 := K12.below B23 (by omega)
  have K23 := K22.below B23 (by omega)
  have HB3 := hide (HB2.out.trans (B23.mono HB2.out.size))
  have HR3 := hide (HR2.out.mono B23)
  have HW3 := hide (HW2.out.mono B23)
  have hcb2 := HW2.out.lt
  generalize hot : w2.heap.size = ot at *
  clear hw3 HB2 HR2 HW2 B23 hot K12 K22
  obtain ⟨g0, g1, g2⟩ := K13.cells
  go_wp2_with fail
  refine (at_any _ n c zs 0 _ HR3.out).mono ?_
  rintro e wx ⟨rfl, hwx⟩
  subst wx
  rw [hg]
  by_cases hd : 0 ≤ d ∧ d ≤ 3
  rotate_left
  · have hcn : Hid (canD W H g d = false) := hide (by unfold canD; rw [decide_eq_false (by omega)]; rfl)
    have hdd : decide (0 ≤ d ∧ d ≤ 3) = false := decide_eq_false hd
    go_wp2_with fail
    refine (within_any d 0 3 _).mono ?_
    rintro e wx ⟨rfl, hwx⟩
    subst wx
    rw [hdd]
    clear g0 g1 g2
    go_wp2_with (first
      | refine wpList_load_gd rfl (.tmp 6) rfl ot rfl K3 ?_
      | (refine wpList_store_gd rfl (.tmp 4) (.tmp 18) rfl (w.heap.size + 1) rfl rfl K23 ?_; intro w6 k6 kk6))
    refine bodyPost_ret (results_g1 rfl _ _ (w.heap.size + 1) rfl k6 rfl) rfl ⟨cb, c', by rw [hcn.out]; rfl, ?_, ?_⟩
    · rw [stpZ_no hcn.out]
      exact HW3.out.keeps kk6 (by omega)
    · exact HB3.out.trans ((kk6.mono (Y := fun q => w.heap.size ≤ q) (fun q _ e => by omega)).below (B := w.heap.size) HB3.out.size (fun q hq e => by omega))
  have hdd : decide (0 ≤ d ∧ d ≤ 3) = true := decide_eq_true hd
  obtain ⟨m, rfl⟩ := Int.eq_ofNat_of_zero_le hd.1
  have HCD : Hid (canD W H g (m : Int) = cmv W H g m) := hide (by unfold canD; rw [decide_eq_true (by omega)]; rfl)
  go_wp2_with fail
  refine (within_any m 0 3 _).mono ?_
  rintro e wx ⟨rfl, hwx⟩
  subst wx
  rw [hdd]
  clear hdd g0 g1 g2
  obtain ⟨dx, hdx⟩ : ∃ dx, stab.getD (2 * m) 0 = dx := ⟨_, rfl⟩
  obtain ⟨dy, hdy⟩ : ∃ dy, stab.getD (2 * m + 1) 0 = dy := ⟨_, rfl⟩
  have hbd := stab_bd (d := m) (by omega)
  rw [hdx, hdy] at hbd
  have HDX : Hid (([0, -1, 0, 1] : List Int).getD m 0 = dx) := hide (by rw [← hdx]; match m, hd.2 with | 0, _ => rfl | 1, _ => rfl | 2, _ => rfl | 3, _ => rfl | m + 4, h => omega)
  have HDY : Hid (([1, 0, -1, 0] : List Int).getD m 0 = dy) := hide (by rw [← hdy]; match m, hd.2 with | 0, _ => rfl | 1, _ => rfl | 2, _ => rfl | 3, _ => rfl | m + 4, h => omega)
  have HCM : Hid (cmv W H g m = decide (inb W H g dx dy)) := hide (by rw [← hdx, ← hdy])
  have HFR : Hid (frm W H g m = stq W H g dx dy) := hide (by rw [← hdx, ← hdy])
  clear hdx hdy
  have hX : g % W < W := Nat.mod_lt _ (by omega)
  have hY : g / W < H := Nat.div_lt_of_lt_mul (by omega)
  have hm : (g : Int) % (W : Int) = ((g % W : Nat) : Int) := by simp
  have hdv : (g : Int) / (W : Int) = ((g / W : Nat) : Int) := by simp
  have hI : Hid (inb W H g dx dy ↔ (0 ≤ ((g % W : Nat) : Int) + dx ∧ ((g % W : Nat) : Int) + dx < W ∧ 0 ≤ ((g / W : Nat) : Int) + dy ∧ ((g / W : Nat) : Int) + dy < H)) := hide Iff.rfl
  have hQ : Hid (stq W H g dx dy = if inb W H g dx dy then (((g / W : Nat) : Int) + dy) * W + (((g % W : Nat) : Int) + dx) else 0) := hide rfl
  generalize g % W = X at *
  generalize g / W = Y at *
  have hW0 : ¬ (W : Int) = 0 := by omega
  have hW0n : ¬ W = 0 := by omega
  have hmt : (g : Int).tmod (W : Int) = (X : Int) := by rw [Int.tmod_eq_emod_of_nonneg (by omega)]; exact hm
  have hdt : (g : Int).tdiv (W : Int) = (Y : Int) := by rw [Int.tdiv_eq_ediv_of_nonneg (by omega)]; exact hdv
  go_upto_region 5 with fail
  refine wp_region_held (S := fun W4 => Keeps (fun _ => False) w3 W4) (by kernel_rfl) ?_
  change wpAnyH _ _ _ _ _ _ _ _ (World.drew _)
  have SW : Keeps (fun _ => False) w3 w3.drew := (Keeps.refl _ w3).drew
  refine wpAnyH_take (i := 0) (v := .int .i64 g) rfl (by kernel_rfl) (by kernel_rfl) (by kernel_rfl) (fun _ _ _ h => h) (Or.inl ⟨by rfl, ?_⟩) SW ?_
  · intro W4 hW4
    go_simp <;> first | done | rfl | (rw [IntKind.wrap_i64]; omega) | omega
  go_simp
  refine wpAnyH_take (i := 1) (v := .pointer (some ⟨w.heap.size, 0, none⟩)) rfl (by kernel_rfl) (by kernel_rfl) (by kernel_rfl) (fun _ _ _ h => h) (Or.inl ⟨by rfl, ?_⟩) SW ?_
  · intro W4 hW4
    go_simp <;> first | done | rfl | (rw [IntKind.wrap_i64]; omega) | omega
  go_simp
  refine wpAnyH_take (i := 2) (v := .int .i64 W) rfl (by kernel_rfl) (by kernel_rfl) (by kernel_rfl) (fun _ _ _ h => h) (Or.inl ⟨by rfl, ?_⟩) SW ?_
  · intro W4 hW4
    have hc := (K13.keeps hW4 (fun h => h)).cells
    go_simp <;> first | done | rfl | (rw [IntKind.wrap_i64]; omega) | omega
  go_simp
  refine wpAnyH_take (i := 3) (v := .int .i64 (X : Int)) rfl (by kernel_rfl) (by kernel_rfl) (by kernel_rfl) (fun _ _ _ h => h) (Or.inl ⟨by rfl, ?_⟩) SW ?_
  · intro W4 hW4
    go_simp <;> first | done | rfl | (rw [IntKind.wrap_i64]; omega) | omega
  go_simp
  refine wpAnyH_take (i := 5) (v := .int .i64 m) rfl (by kernel_rfl) (by kernel_rfl) (by kernel_rfl) (fun _ _ _ h => h) (Or.inl ⟨by rfl, ?_⟩) SW ?_
  · intro W4 hW4
    go_simp <;> first | done | rfl | (rw [IntKind.wrap_i64]; omega) | omega
  go_simp
  refine wpAnyH_ready (rs := [4]) (by kernel_rfl) (by simp) ?_
  refine AllReadyH.cons rfl (fun K1 hK1 => ?_) AllReadyH.nil
  go_simp
  have SW5 : Keeps (fun _ => False) w3 (w3.alloc (.cells #[.int .i64 0, .int .i64 (-1), .int .i64 0, .int .i64 1] 3)).drew := SW.trans (Keeps.of_all ((Below.refl _ _).alloc (Nat.le_refl _) _))
  obtain ⟨w5, hw5⟩ : ∃ w5, (w3.alloc (.cells #[.int .i64 0, .int .i64 (-1), .int .i64 0, .int .i64 1] 3)).drew = w5 := ⟨_, rfl⟩
  have hnew : w5.heap[w3.heap.size]? = some (.cells #[.int .i64 0, .int .i64 (-1), .int .i64 0, .int .i64 1] 3 (0, 0)) := by rw [← hw5]; exact heap_alloc_new w3 (.cells #[.int .i64 0, .int .i64 (-1), .int .i64 0, .int .i64 1] 3)
  have hcl : w5.cell? ⟨w3.heap.size, m, none⟩ = some (.int .i64 dx) := by
    rw [← HDX.out]
    match m, hd.2 with
    | 0, _ => simp [World.cell?, hnew]
    | 1, _ => simp [World.cell?, hnew]
    | 2, _ => simp [World.cell?, hnew]
    | 3, _ => simp [World.cell?, hnew]
    | m + 4, h => omega
  rw [hw5] at SW5 ⊢
  clear hw5 hnew
  refine hK1.out _ _ SW5 (fun SW => ?_)
  clear hK1 K1
  go_simp
  refine wpAnyH_take (i := 6) (v := .pointer (some ⟨w3.heap.size, m, none⟩)) rfl (by kernel_rfl) (by kernel_rfl) (by kernel_rfl) (fun _ _ _ h => h) (Or.inl ⟨by rfl, ?_⟩) SW ?_
  · intro W4 hW4
    go_simp <;> first | done | rfl | (rw [IntKind.wrap_i64]; omega) | omega
  go_simp
  refine wpAnyH_ready (rs := [7]) (by kernel_rfl) (by simp) ?_
  refine AllReadyH.cons rfl (fun K1 hK1 => ?_) AllReadyH.nil
  go_simp
  refine hK1.out _ _ SW (fun SW => ?_)
  clear hK1 K1
  go_simp
  refine wpAnyH_take (i := 8) (v := .int .i64 ((X : Int) + dx)) rfl (by kernel_rfl) (by kernel_rfl) (by kernel_rfl) (fun _ _ _ h => h) (Or.inl ⟨by rfl, ?_⟩) SW ?_
  · intro W4 hW4
    go_simp <;> first | done | rfl | (rw [IntKind.wrap_i64]; omega) | omega
  go_simp
  refine wpAnyH_ready (rs := [9]) (by kernel_rfl) (by simp) ?_
  refine AllReadyH.cons rfl (fun K1 hK1 => ?_) AllReadyH.nil
  go_simp
  refine hK1.out _ _ SW (fun SW => ?_)
  clear hK1 K1
  go_simp
  refine wpAnyH_done (by kernel_rfl) ?_ _
  have K15 := K13.keeps SW (fun h => h)
  have K25 := K23.keeps SW (fun h => h)
  have K5 := K3.keeps SW (fun h => h)
  have HB5 := hide (HB3.out.trans ((SW.mono (Y := fun k => w.heap.size ≤ k) (fun k _ h => h.elim)).below HB3.out.size (fun k hk e => by omega)))
  have HR5 := hide (HR3.out.keeps SW (fun _ _ _ h => h))
  have HW5 := hide (HW3.out.keeps SW (fun h => h))
  clear SW5 SW hcl K13 K23 K3 HB3 HR3 HW3
  go_upto_region 6 with fail
  refine wp_region_held (S := fun W4 => Keeps (fun _ => False) w5 W4) (by kernel_rfl) ?_
  change wpAnyH _ _ _ _ _ _ _ _ (World.drew _)
  have SW : Keeps (fun _ => False) w5 w5.drew := (Keeps.refl _ w5).drew
  refine wpAnyH_take (i := 0) (v := .int .i64 g) rfl (by kernel_rfl) (by kernel_rfl) (by kernel_rfl) (fun _ _ _ h => h) (Or.inl ⟨by rfl, ?_⟩) SW ?_
  · intro W4 hW4
    go_simp <;> first | done | rfl | (rw [IntKind.wrap_i64]; omega) | omega
  go_simp
  refine wpAnyH_take (i := 1) (v := .pointer (some ⟨w.heap.size, 0, none⟩)) rfl (by kernel_rfl) (by kernel_rfl) (by kernel_rfl) (fun _ _ _ h => h) (Or.inl ⟨by rfl, ?_⟩) SW ?_
  · intro W4 hW4
    go_simp <;> first | done | rfl | (rw [IntKind.wrap_i64]; omega) | omega
  go_simp
  refine wpAnyH_take (i := 2) (v := .int .i64 W) rfl (by kernel_rfl) (by kernel_rfl) (by kernel_rfl) (fun _ _ _ h => h) (Or.inl ⟨by rfl, ?_⟩) SW ?_
  · intro W4 hW4
    have hc := (K15.keeps hW4 (fun h => h)).cells
    go_simp <;> first | done | rfl | (rw [IntKind.wrap_i64]; omega) | omega
  go_simp
  refine wpAnyH_take (i := 3) (v := .int .i64 (Y : Int)) rfl (by kernel_rfl) (by kernel_rfl) (by kernel_rfl) (fun _ _ _ h => h) (Or.inl ⟨by rfl, ?_⟩) SW ?_
  · intro W4 hW4
    go_simp <;> first | done | rfl | (rw [IntKind.wrap_i64]; omega) | omega
  go_simp
  refine wpAnyH_take (i := 5) (v := .int .i64 m) rfl (by kernel_rfl) (by kernel_rfl) (by kernel_rfl) (fun _ _ _ h => h) (Or.inl ⟨by rfl, ?_⟩) SW ?_
  · intro W4 hW4
    go_simp <;> first | done | rfl | (rw [IntKind.wrap_i64]; omega) | omega
  go_simp
  refine wpAnyH_ready (rs := [4]) (by kernel_rfl) (by simp) ?_
  refine AllReadyH.cons rfl (fun K1 hK1 => ?_) AllReadyH.nil
  go_simp
  have SW5 : Keeps (fun _ => False) w5 (w5.alloc (.cells #[.int .i64 1, .int .i64 0, .int .i64 (-1), .int .i64 0] 3)).drew := SW.trans (Keeps.of_all ((Below.refl _ _).alloc (Nat.le_refl _) _))
  obtain ⟨w7, hw7⟩ : ∃ w7, (w5.alloc (.cells #[.int .i64 1, .int .i64 0, .int .i64 (-1), .int .i64 0] 3)).drew = w7 := ⟨_, rfl⟩
  have hnew : w7.heap[w5.heap.size]? = some (.cells #[.int .i64 1, .int .i64 0, .int .i64 (-1), .int .i64 0] 3 (0, 0)) := by rw [← hw7]; exact heap_alloc_new w5 (.cells #[.int .i64 1, .int .i64 0, .int .i64 (-1), .int .i64 0] 3)
  have hcl : w7.cell? ⟨w5.heap.size, m, none⟩ = some (.int .i64 dy) := by
    rw [← HDY.out]
    match m, hd.2 with
    | 0, _ => simp [World.cell?, hnew]
    | 1, _ => simp [World.cell?, hnew]
    | 2, _ => simp [World.cell?, hnew]
    | 3, _ => simp [World.cell?, hnew]
    | m + 4, h => omega
  rw [hw7] at SW5 ⊢
  clear hw7 hnew
  refine hK1.out _ _ SW5 (fun SW => ?_)
  clear hK1 K1
  go_simp
  refine wpAnyH_take (i := 6) (v := .pointer (some ⟨w5.heap.size, m, none⟩)) rfl (by kernel_rfl) (by kernel_rfl) (by kernel_rfl) (fun _ _ _ h => h) (Or.inl ⟨by rfl, ?_⟩) SW ?_
  · intro W4 hW4
    go_simp <;> first | done | rfl | (rw [IntKind.wrap_i64]; omega) | omega
  go_simp
  refine wpAnyH_ready (rs := [7]) (by kernel_rfl) (by simp) ?_
  refine AllReadyH.cons rfl (fun K1 hK1 => ?_) AllReadyH.nil
  go_simp
  refine hK1.out _ _ SW (fun SW => ?_)
  clear hK1 K1
  go_simp
  refine wpAnyH_take (i := 8) (v := .int .i64 ((Y : Int) + dy)) rfl (by kernel_rfl) (by kernel_rfl) (by kernel_rfl) (fun _ _ _ h => h) (Or.inl ⟨by rfl, ?_⟩) SW ?_
  · intro W4 hW4
    go_simp <;> first | done | rfl | (rw [IntKind.wrap_i64]; omega) | omega
  go_simp
  refine wpAnyH_ready (rs := [9]) (by kernel_rfl) (by simp) ?_
  refine AllReadyH.cons rfl (fun K1 hK1 => ?_) AllReadyH.nil
  go_simp
  refine hK1.out _ _ SW (fun SW => ?_)
  clear hK1 K1
  go_simp
  refine wpAnyH_done (by kernel_rfl) ?_ _
  have K17 := K15.keeps SW (fun h => h)
  have K27 := K25.keeps SW (fun h => h)
  have K7 := K5.keeps SW (fun h => h)
  have HB7 := hide (HB5.out.trans ((SW.mono (Y := fun k => w.heap.size ≤ k) (fun k _ h => h.elim)).below HB5.out.size (fun k hk e => by omega)))
  have HR7 := hide (HR5.out.keeps SW (fun _ _ _ h => h))
  have HW7 := hide (HW5.out.keeps SW (fun h => h))
  clear SW5 SW hcl K15 K25 K5 HB5 HR5 HW5
  obtain ⟨g0, g1, g2⟩ := K17.cells
  by_cases hx : 0 ≤ (X : Int) + dx ∧ (X : Int) + dx ≤ W - 1
  rotate_left
  · have hxd : decide (0 ≤ (X : Int) + dx ∧ (X : Int) + dx ≤ (W : Int) - 1) = false := decide_eq_false hx
    have hcn : Hid (canD W H g (m : Int) = false) := hide (by rw [HCD.out, HCM.out]; exact decide_eq_false (fun h => hx (by have := hI.out.1 h; omega)))
    clear hI hQ HCD HCM HFR
    go_wp2_with fail
    refine (within_any ((X : Int) + dx) 0 ((W : Int) - 1) _).mono ?_
    rintro e wx ⟨rfl, hwx⟩
    subst wx
    rw [hxd]
    clear g0 g1 g2
    go_wp2_with (first
      | refine wpList_load_gd rfl (.tmp 6) rfl ot rfl K7 ?_
      | (refine wpList_store_gd rfl (.tmp 4) (.tmp 51) rfl (w.heap.size + 1) rfl rfl K27 ?_; intro w8 k8 kk8))
    refine bodyPost_ret (results_g1 rfl _ _ (w.heap.size + 1) rfl k8 rfl) rfl ⟨cb, c', by rw [hcn.out]; rfl, ?_, ?_⟩
    · rw [stpZ_no hcn.out]
      exact HW7.out.keeps kk8 (by omega)
    · exact HB7.out.trans ((kk8.mono (Y := fun q => w.heap.size ≤ q) (fun q _ e => by omega)).below (B := w.heap.size) HB7.out.size (fun q hq e => by omega))
  have hxd : decide (0 ≤ (X : Int) + dx ∧ (X : Int) + dx ≤ (W : Int) - 1) = true := decide_eq_true hx
  by_cases hy : 0 ≤ (Y : Int) + dy ∧ (Y : Int) + dy ≤ H - 1
  rotate_left
  · have hyd : decide (0 ≤ (Y : Int) + dy ∧ (Y : Int) + dy ≤ (H : Int) - 1) = false := decide_eq_false hy
    have hcn : Hid (canD W H g (m : Int) = false) := hide (by rw [HCD.out, HCM.out]; exact decide_eq_false (fun h => hy (by have := hI.out.1 h; omega)))
    clear hI hQ HCD HCM HFR
    go_wp2_with fail
    refine (within_any ((X : Int) + dx) 0 ((W : Int) - 1) _).mono ?_
    rintro e wx ⟨rfl, hwx⟩
    subst wx
    rw [hxd]
    go_wp2_with fail
    refine (within_any ((Y : Int) + dy) 0 ((H : Int) - 1) _).mono ?_
    rintro e wx ⟨rfl, hwx⟩
    subst wx
    rw [hyd]
    clear g0 g1 g2
    go_wp2_with (first
      | refine wpList_load_gd rfl (.tmp 6) rfl ot rfl K7 ?_
      | (refine wpList_store_gd rfl (.tmp 4) (.tmp 51) rfl (w.heap.size + 1) rfl rfl K27 ?_; intro w8 k8 kk8))
    refine bodyPost_ret (results_g1 rfl _ _ (w.heap.size + 1) rfl k8 rfl) rfl ⟨cb, c', by rw [hcn.out]; rfl, ?_, ?_⟩
    · rw [stpZ_no hcn.out]
      exact HW7.out.keeps kk8 (by omega)
    · exact HB7.out.trans ((kk8.mono (Y := fun q => w.heap.size ≤ q) (fun q _ e => by omega)).below (B := w.heap.size) HB7.out.size (fun q hq e => by omega))
  have hyd : decide (0 ≤ (Y : Int) + dy ∧ (Y : Int) + dy ≤ (H : Int) - 1) = true := decide_eq_true hy
  have hin : inb W H g dx dy := hI.out.2 (by omega)
  have HCN : Hid (canD W H g (m : Int) = true) := hide (by rw [HCD.out, HCM.out]; exact decide_eq_true hin)
  obtain ⟨r, hr, hrn⟩ := stq_nat hin
  rw [hN] at hrn
  have hre : ((Y : Int) + dy) * W + ((X : Int) + dx) = (r : Int) := by rw [← hr, hQ.out, if_pos hin]
  have HFN : Hid ((frm W H g ((m : Int)).toNat).toNat = r) := hide (by rw [Int.toNat_natCast, HFR.out, hr, Int.toNat_natCast])
  obtain ⟨x, hxe⟩ := Int.eq_ofNat_of_zero_le hx.1
  obtain ⟨y, hye⟩ := Int.eq_ofNat_of_zero_le hy.1
  rw [hxe, hye] at hre
  rw [hxe] at hx hxd
  rw [hye] at hy hyd
  have hyw : (y : Int) * (W : Int) = ((y * W : Nat) : Int) := by simp
  have hre2 : y * W + x = r := by rw [hyw] at hre; omega
  have hyb : y * W ≤ 25 := by omega
  clear hI hQ HCD HCM HFR hin hr hre
  go_wp2_with fail
  rw [hxe]
  refine (within_any (x : Int) 0 ((W : Int) - 1) _).mono ?_
  rintro e wx ⟨rfl, hwx⟩
  subst wx
  rw [hxd]
  go_wp2_with fail
  refine (within_any (y : Int) 0 ((H : Int) - 1) _).mono ?_
  rintro e wx ⟨rfl, hwx⟩
  subst wx
  rw [hyd]
  clear g0 g1 g2 hxd hyd
  generalize y * W = Z at *
  generalize hv : zs.getD r 0 = v
  have hcr : w7.cell? ⟨ab, aoff + r, none⟩ = some (.int .i64 v) := by rw [← hv]; exact (HR7.out.cell hrn).2
  have hcg : w7.cell? ⟨cb, 0 + g, none⟩ = some (.int .i64 (zs.getD g 0)) := (HW7.out.rd.cell hgn).2
  rw [Nat.zero_add] at hcg
  have hfz : ∀ j, w7.frozen? ⟨cb, j, none⟩ = false := fun j => HW7.out.frozen j
  have hn1 : ¬ ot = cb := by omega
  have hn2 : ¬ w.heap.size = cb := by omega
  have hn3 : ¬ ab = cb := by omega
  have hcap2 := HW7.out.rd.cap
  have hmax2 := HW7.out.rd.max
  unfold maxLen at hmax2
  go_upto_region 9 with fail
  refine wp_region_held (S := fun W4 => Keeps (fun k => k = cb) w7 W4) (by kernel_rfl) ?_
  change wpAnyH _ _ _ _ _ _ _ _ (World.drew _)
  have SW : Keeps (fun k => k = cb) w7 w7.drew := (Keeps.refl _ w7).drew
  refine wpAnyH_take (i := 0) (v := .pointer (some ⟨ot, 2, none⟩)) rfl (by kernel_rfl) (by kernel_rfl) (by kernel_rfl) (fun _ _ _ h => h) (Or.inl ⟨by rfl, ?_⟩) SW ?_
  · intro W4 hW4
    go_simp <;> first | done | rfl | (rw [IntKind.wrap_i64]; omega) | omega
  go_simp
  refine wpAnyH_take (i := 1) (v := .slice (some ⟨cb, 0, none⟩) n c') rfl (by kernel_rfl) (by kernel_rfl) (by kernel_rfl) (fun _ _ _ h => h) (Or.inl ⟨by rfl, ?_⟩) SW ?_
  · intro W4 hW4
    have hc := (K7.keeps hW4 hn1).cells
    go_simp <;> first | done | rfl | (rw [IntKind.wrap_i64]; omega) | omega
  go_simp
  refine wpAnyH_take (i := 2) (v := .int .i64 g) rfl (by kernel_rfl) (by kernel_rfl) (by kernel_rfl) (fun _ _ _ h => h) (Or.inl ⟨by rfl, ?_⟩) SW ?_
  · intro W4 hW4
    go_simp <;> first | done | rfl | (rw [IntKind.wrap_i64]; omega) | omega
  go_simp
  refine wpAnyH_take (i := 3) (v := .pointer (some ⟨w.heap.size, 2, none⟩)) rfl (by kernel_rfl) (by kernel_rfl) (by kernel_rfl) (fun _ _ _ h => h) (Or.inl ⟨by rfl, ?_⟩) SW ?_
  · intro W4 hW4
    go_simp <;> first | done | rfl | (rw [IntKind.wrap_i64]; omega) | omega
  go_simp
  refine wpAnyH_take (i := 4) (v := .slice (some ⟨ab, aoff, none⟩) n c) rfl (by kernel_rfl) (by kernel_rfl) (by kernel_rfl) (fun _ _ _ h => h) (Or.inl ⟨by rfl, ?_⟩) SW ?_
  · intro W4 hW4
    have hc := (K17.keeps hW4 hn2).cells
    go_simp <;> first | done | rfl | (rw [IntKind.wrap_i64]; omega) | omega
  go_simp
  refine wpAnyH_take (i := 5) (v := .int .i64 y) rfl (by kernel_rfl) (by kernel_rfl) (by kernel_rfl) (fun _ _ _ h => h) (Or.inl ⟨by rfl, ?_⟩) SW ?_
  · intro W4 hW4
    go_simp <;> first | done | rfl | (rw [IntKind.wrap_i64]; omega) | omega
  go_simp
  refine wpAnyH_take (i := 6) (v := .pointer (some ⟨w.heap.size, 0, none⟩)) rfl (by kernel_rfl) (by kernel_rfl) (by kernel_rfl) (fun _ _ _ h => h) (Or.inl ⟨by rfl, ?_⟩) SW ?_
  · intro W4 hW4
    go_simp <;> first | done | rfl | (rw [IntKind.wrap_i64]; omega) | omega
  go_simp
  refine wpAnyH_take (i := 7) (v := .int .i64 W) rfl (by kernel_rfl) (by kernel_rfl) (by kernel_rfl) (fun _ _ _ h => h) (Or.inl ⟨by rfl, ?_⟩) SW ?_
  · intro W4 hW4
    have hc := (K17.keeps hW4 hn2).cells
    go_simp <;> first | done | rfl | (rw [IntKind.wrap_i64]; omega) | omega
  go_simp
  refine wpAnyH_take (i := 8) (v := .int .i64 Z) rfl (by kernel_rfl) (by kernel_rfl) (by kernel_rfl) (fun _ _ _ h => h) (Or.inl ⟨by rfl, ?_⟩) SW ?_
  · intro W4 hW4
    go_simp <;> first | done | rfl | (rw [IntKind.wrap_i64]; omega) | omega
  go_simp
  refine wpAnyH_take (i := 9) (v := .int .i64 x) rfl (by kernel_rfl) (by kernel_rfl) (by kernel_rfl) (fun _ _ _ h => h) (Or.inl ⟨by rfl, ?_⟩) SW ?_
  · intro W4 hW4
    go_simp <;> first | done | rfl | (rw [IntKind.wrap_i64]; omega) | omega
  go_simp
  refine wpAnyH_take (i := 10) (v := .int .i64 r) rfl (by kernel_rfl) (by kernel_rfl) (by kernel_rfl) (fun _ _ _ h => h) (Or.inl ⟨by rfl, ?_⟩) SW ?_
  · intro W4 hW4
    go_simp <;> first | done | rfl | (rw [IntKind.wrap_i64]; omega) | omega
  go_simp
  refine wpAnyH_take (i := 11) (v := .pointer (some ⟨ab, aoff + r, none⟩)) rfl (by kernel_rfl) (by kernel_rfl) (by kernel_rfl) (fun _ _ _ h => h) (Or.inl ⟨by rfl, ?_⟩) SW ?_
  · intro W4 hW4
    go_simp <;> first | done | rfl | (rw [IntKind.wrap_i64]; omega) | omega
  go_simp
  refine wpAnyH_take (i := 12) (v := .int .i64 v) rfl (by kernel_rfl) (by kernel_rfl) (by kernel_rfl) (fun _ _ _ h => h) (Or.inl ⟨by rfl, ?_⟩) SW ?_
  · intro W4 hW4
    have hc := hW4.cell hcr hn3
    go_simp <;> first | done | rfl | (rw [IntKind.wrap_i64]; omega) | omega
  go_simp
  refine wpAnyH_take (i := 13) (v := .pointer (some ⟨cb, g, none⟩)) rfl (by kernel_rfl) (by kernel_rfl) (by kernel_rfl) (fun _ _ _ h => h) (Or.inl ⟨by rfl, ?_⟩) SW ?_
  · intro W4 hW4
    go_simp <;> first | done | rfl | (rw [IntKind.wrap_i64]; omega) | omega
  go_simp
  refine wpAnyH_ready (rs := [14]) (by kernel_rfl) (by simp) ?_
  refine AllReadyH.cons rfl (fun K1 hK1 => ?_) AllReadyH.nil
  go_simp
  have KK : Keeps (fun k => k = cb) w7 (w7.setCell ⟨cb, g, none⟩ (.int .i64 v)).drew := ((Keeps.refl (fun k => k = cb) w7).setCell (p := ⟨cb, g, none⟩) rfl _).drew
  have B9 : Bw (w7.setCell ⟨cb, g, none⟩ (.int .i64 v)).drew cb n c' (zs.set g v) := (HW7.out.set g v).mono ((Below.refl _ _).drew)
  refine hK1.out _ _ KK (fun SW => ?_)
  clear hK1 K1
  generalize (w7.setCell ⟨cb, g, none⟩ (.int .i64 v)).drew = w9 at *
  go_simp
  refine wpAnyH_done (by kernel_rfl) ?_ _
  have HB9 := hide B9
  have K19 := K17.keeps KK hn2
  have K29 := K27.keeps KK (by omega)
  have K9 := K7.keeps KK hn1
  have HBB := hide (HB7.out.trans ((KK.mono (Y := fun k => w.heap.size ≤ k) (fun k _ h => by omega)).below HB7.out.size (fun k hk e => by omega)))
  have hcr9 : w9.cell? ⟨cb, 0 + r, none⟩ = some (.int .i64 ((zs.set g v).getD r 0)) := (B9.rd.cell hrn).2
  rw [Nat.zero_add] at hcr9
  have hfz9 : ∀ j, w9.frozen? ⟨cb, j, none⟩ = false := fun j => HB9.out.frozen j
  obtain ⟨g0, g1, g2⟩ := K19.cells
  obtain ⟨q0, q1, q2⟩ := K9.cells
  clear SW KK K17 K27 K7 HB7 HR7 HW7 B9 hcr hcg hfz
  go_upto_region 11 with fail
  have KS : Keeps (fun k => k = cb) w9 (w9.setCell ⟨cb, r, none⟩ (.int .i64 0)) := (Keeps.refl (fun k => k = cb) w9).setCell (p := ⟨cb, r, none⟩) rfl _
  have B10 : Bw (w9.setCell ⟨cb, r, none⟩ (.int .i64 0)) cb n c' (mvl zs g r) := by
    have := HB9.out.set r 0
    unfold mvl
    rw [hv]
    exact this
  have K10 := K9.keeps KS hn1
  have K210 := K29.keeps KS (by omega)
  have HB10 := hide B10
  have HBB2 := hide (HBB.out.trans ((KS.mono (Y := fun k => w.heap.size ≤ k) (fun k _ h => by omega)).below HBB.out.size (fun k hk e => by omega)))
  generalize w9.setCell ⟨cb, r, none⟩ (.int .i64 0) = w10 at *
  clear g0 g1 g2 q0 q1 q2 hcr9 hfz9 K19 K29 K9 HB9 KS B10 HBB
  go_wp2_with (first
    | refine wpList_load_gd rfl (.tmp 6) rfl ot rfl K10 ?_
    | (refine wpList_store_gd rfl (.tmp 4) (.tmp 75) rfl (w.heap.size + 1) rfl rfl K210 ?_; intro w12 k12 kk12))
  refine bodyPost_ret (results_g1 rfl _ _ (w.heap.size + 1) rfl k12 rfl) rfl ⟨cb, c', by rw [HCN.out]; rfl, ?_, ?_⟩
  · rw [stpZ_yes HCN.out, HFN.out]
    exact HB10.out.keeps kk12 (by omega)
  · exact HBB2.out.trans ((kk12.mono (Y := fun q => w.heap.size ≤ q) (fun q _ e => by omega)).below (B := w.heap.size) HBB2.out.size (fun q hq e => by omega))

end Go.Proofs.YticalbpohhpjaaaDoor
