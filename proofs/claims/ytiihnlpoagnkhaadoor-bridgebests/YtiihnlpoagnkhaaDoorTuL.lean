/-
  The walk of the law on moved hands. No conditions beyond those that each theorem bears.
-/
import Derived.Test.YtiihnlpoagnkhaaDoorTuM
namespace Go.Proofs.YtiihnlpoagnkhaaDoor
open Go.RowKit

theorem form27 {w : World} {base : Nat} {v : Value} {n : Nat} {xs : List Value} (h : w.ownsRow base 27 1 v n xs) : ∃ a c, v = .slice a n c := by
  rcases h.2 with ⟨hv, h0⟩ | ⟨g, cap, cur, hv, _⟩
  · exact ⟨none, 0, by rw [hv, h0]⟩
  · exact ⟨_, _, hv⟩

theorem one_news (w : World) (v : Value) : ∀ j u, [v][j]? = some u → (w.alloc (.cells #[v] 27)).cell? ((⟨w.heap.size, 0, none⟩ : Addr).add j) = some u := by
  intro j u hu
  match j with
  | 0 =>
    simp only [List.getElem?_cons_zero, Option.some.injEq] at hu
    subst hu
    rw [Addr.add_lit]
    have : (w.alloc (.cells #[v] 27)).heap[w.heap.size]? = some (.cells #[v] 27 (0, 0)) := heap_alloc_new w _
    simp only [World.cell?, this]
    rfl
  | j + 1 => simp at hu

theorem four_news (w : World) (a b c d : Value) : ∀ j u, [a, b, c, d][j]? = some u → (w.alloc (.cells #[a, b, c, d] 27)).drew.cell? ((⟨w.heap.size, 0, none⟩ : Addr).add j) = some u := by
  intro j u hu
  have h1 : (w.alloc (.cells #[a, b, c, d] 27)).drew.heap[w.heap.size]? = some (.cells #[a, b, c, d] 27 (0, 0)) := heap_alloc_new w _
  rw [Addr.add_lit]
  simp only [World.cell?, h1, Nat.zero_add]
  match j with
  | 0 => simpa using hu
  | 1 => simpa using hu
  | 2 => simpa using hu
  | 3 => simpa using hu
  | j + 4 => simp at hu

theorem hs_of_own {w : World} {base g c n : Nat} {V : Nat → Value} {Z : Nat → List Nat} (h : w.ownsRow base 27 1 (.slice (some ⟨g, 0, none⟩) 4 c) 4 ((List.range 4).map V)) (hV : ∀ i, i < 4 → ∃ a cc, V i = .slice a n cc ∧ Rd w a n cc (toI (Z i))) : HS w g n Z := by
  refine ⟨fun i hi => ?_⟩
  obtain ⟨a, cc, h1, h2⟩ := hV i hi
  refine ⟨a, cc, ?_, h2⟩
  rw [h.cellAt i (by omega)]
  simp [hi, h1]

set_option maxRecDepth 100000 in
set_option maxHeartbeats 4000000 in
theorem turns_any (a : Option Addr) (nz cz : Nat) (zs : List Int) (many strain leader : Int) (w : World) (hT : Tab w) (h : Rd w a nz cz zs) (hz : ∀ z ∈ zs, -9223372036854775808 ≤ z ∧ z ≤ 9223372036854775807)
    (h1 : -9223372036854775808 ≤ many ∧ many ≤ 9223372036854775807) (h2 : -9223372036854775808 ≤ strain ∧ strain ≤ 9223372036854775807) (h3 : -9223372036854775808 ≤ leader ∧ leader ≤ 9223372036854775807) :
    Calls Tryd.prog 4 #[.slice a nz cz, .int .i64 many, .int .i64 strain, .int .i64 leader] w fun e w' => e = .returned (.bool true) ∧ Below w.heap.size w w' := by
  obtain ⟨i0, hi0, hz0, hz1, hz2⟩ := info_parts Tryd.info27
  have h0s : 0 < w.heap.size := World.block_lt_of_cell? w _ (hT 0 (by omega))
  have P1 := hide (fun W => picked_any many 3 W h1.1 h1.2 (by omega) (by omega))
  have P2 := hide (fun W => picked_any strain 5 W h2.1 h2.2 (by omega) (by omega))
  have P3 := hide (fun W => picked_any leader 4 W h3.1 h3.2 (by omega) (by omega))
  have k1 := pk_lt many 3 (by omega)
  have k2 := pk_lt strain 5 (by omega)
  have k3 := pk_lt leader 4 (by omega)
  generalize pk many 3 = pm at *
  generalize pk strain 5 = s at *
  generalize pk leader 4 = ld at *
  obtain ⟨n, hn⟩ : ∃ n, 1 + pm = n := ⟨_, rfl⟩
  have hn' : (1 : Int) + (pm : Int) = (n : Int) := by omega
  have hn1 : 1 ≤ n := by omega
  have hn3 : n ≤ 3 := by omega
  obtain ⟨n4, hn4⟩ : ∃ n4, 4 * n = n4 := ⟨_, rfl⟩
  have hn4' : (4 : Int) * (n : Int) = (n4 : Int) := by omega
  have HA := hide (hand_keep a nz cz n4 zs hz (by omega) w h)
  have HT := hide hT
  have HN4 := hide hn4
  have hn4a : n4 ≤ 12 := by omega
  have hn4b : 4 ≤ n4 := by omega
  clear h hT hz h1 h2 h3 hn hn4
  go_enter Tryd.func4, Tryd.ntmps4
  go_wp2_with fail
  refine (P1.out _).mono ?_
  rintro e w1 ⟨rfl, hw⟩
  subst w1
  go_wp2_with fail
  refine HA.out.mono ?_
  rintro e w2 ⟨L, la, lc, hLl, hLd, hL52, rfl, hR, hB⟩
  have hLl4 : L.length = 4 * n := by rw [hLl, HN4.out]
  obtain ⟨lb, lo, rfl, hcl⟩ := hR.cells (by omega)
  have hcap := hR.cap
  have hmax := hR.max
  unfold maxLen at hmax
  have HR4 := hide (show Rd w2 (some ⟨lb, lo, none⟩) (4 * n) lc (toI L) by rw [HN4.out]; exact hR)
  have HU := hide (Zh_un L n hLl4 hLd hL52)
  have HZ := hide (fun i hi => Zh_length L n i hLl4 hi)
  have HB2 := hide hB
  clear hcl hR hLd hL52 hLl4 hLl hB HA
  go_wp2_with fail
  go_loopw [11, 13] (fun v11 v wr => ∃ (i : Nat), v = .int .i64 i ∧ i ≤ 4 ∧ (∃ ad cc, v11 = .slice ad i cc) ∧ Hid (wr.ownsRow w2.heap.size 27 1 v11 i ((List.range i).map (hv lb lo lc n))) ∧ Hid (Below w2.heap.size w2 wr)) (fun _ v _ => 4 - (intOf v).toNat)
  case atStart => exact ⟨0, rfl, by omega, ⟨_, _, rfl⟩, World.ownsRow_nil _ _ _ _, Below.refl _ _⟩
  case round =>
    obtain ⟨i, rfl, hi, ⟨ad, cc, rfl⟩, hO, hB⟩ := hrel
    by_cases hi4 : i < 4
    · have hlt : (i : Int) < 4 := by omega
      obtain ⟨x, hx⟩ : ∃ x, i * n = x := ⟨_, rfl⟩
      have hx' : (i : Int) * (n : Int) = (x : Int) := by rw [← hx]; push_cast; rfl
      have hxn : x + n ≤ n4 := by
        rw [← HN4.out, ← hx]
        have : (i + 1) * n ≤ 4 * n := Nat.mul_le_mul_right n (by omega)
        rw [Nat.add_mul] at this
        omega
      have hvx : Hid (hv lb lo lc n i = .slice (some ⟨lb, lo + x, none⟩) n (lc - x)) := hide (by rw [hv, hx])
      clear hx
      go_wp2_with (at_builtin; refine wpList_append_own _ rfl (.tmp 31) (.tmp 42) 22 rfl w2.heap.size 27 i0 (.slice none 0 0) 1 24 Tryd.underlying22 hi0 hz0 hz1 hz2 rfl (by decide) _ i _ rfl (hO.out.alloc _) ⟨wr.heap.size, 0, none⟩ 1 1 [.slice (some ⟨lb, lo + x, none⟩) n (lc - x)] rfl (by simp) (one_news _ _) (by simp [Value.oneCell']) (by unfold maxLen; omega) (by omega) (by have := hB.out.size; simp; omega) ?_)
      intro v' w' hO' hG' _
      obtain ⟨a', c', hv'⟩ := form27 hO'
      rw [hv'] at hO' ⊢
      have hb0 := hB.out.alloc hB.out.size (.cells #[.slice (some ⟨lb, lo + x, none⟩) n (lc - x)] 27)
      have HB' := hide (hb0.grown hG' hb0.size (fun j hj => (hO.out.lt j hj).1))
      have HO' := hide hO'
      clear hO' hG' hb0 hv'
      go_wp2
      refine ⟨⟨i + 1, by go_num, by omega, ⟨_, _, rfl⟩, ?_, HB'.out⟩, by simp [intOf]; omega⟩
      rw [List.range_succ, List.map_append, List.map_cons, List.map_nil, hvx.out]
      exact HO'.out
    · obtain rfl : i = 4 := by omega
      rw [show (((4 : Nat)) : Int) = (4 : Int) from rfl]
      obtain ⟨g, cap, rfl, rfl, hg0, hcap4, hcapm⟩ : ∃ g cap, ad = some ⟨g, 0, none⟩ ∧ cc = cap ∧ w2.heap.size ≤ g ∧ 4 ≤ cap ∧ cap ≤ 9223372036854775807 := by
        rcases hO.out.2 with ⟨hv, h0⟩ | ⟨g, cap, cur, hv, hb, hg, hnc, hcm, -⟩
        · omega
        · simp only [Value.slice.injEq] at hv
          unfold maxLen at hcm
          exact ⟨g, cap, hv.1, hv.2.2, hb, hnc, by omega⟩
      have hRd := hide (fun j (hj : j < 4) => (hv_rd HR4.out hn1 j hj).mono hB.out)
      have HHS : Hid (HS wr g n (Zh L n)) := hide (hs_of_own hO.out (fun j hj => ⟨_, _, rfl, hRd.out j hj⟩))
      have e0 : wr.cell? ⟨g, 0, none⟩ = some (.slice (some ⟨lb, lo + 0 * n, none⟩) n (lc - 0 * n)) := by rw [hO.out.cellAt 0 (by omega)]; rfl
      have e1 : wr.cell? ⟨g, 1, none⟩ = some (.slice (some ⟨lb, lo + 1 * n, none⟩) n (lc - 1 * n)) := by rw [hO.out.cellAt 1 (by omega)]; rfl
      have e2 : wr.cell? ⟨g, 2, none⟩ = some (.slice (some ⟨lb, lo + 2 * n, none⟩) n (lc - 2 * n)) := by rw [hO.out.cellAt 2 (by omega)]; rfl
      have e3 : wr.cell? ⟨g, 3, none⟩ = some (.slice (some ⟨lb, lo + 3 * n, none⟩) n (lc - 3 * n)) := by rw [hO.out.cellAt 3 (by omega)]; rfl
      have hgs : g < wr.heap.size := (hO.out.lt g rfl).2
      generalize hy0 : lo + 0 * n = y0 at *
      generalize hy1 : lo + 1 * n = y1 at *
      generalize hy2 : lo + 2 * n = y2 at *
      generalize hy3 : lo + 3 * n = y3 at *
      generalize hu0 : lc - 0 * n = u0 at *
      generalize hu1 : lc - 1 * n = u1 at *
      generalize hu2 : lc - 2 * n = u2 at *
      generalize hu3 : lc - 3 * n = u3 at *
      have HYS := hide (And.intro hy0 (And.intro hy1 (And.intro hy2 (And.intro hy3 (And.intro hu0 (And.intro hu1 (And.intro hu2 hu3)))))))
      clear hy0 hy1 hy2 hy3 hu0 hu1 hu2 hu3
      go_wp2_with fail
      refine wp_region_held (S := fun W => W.cell? ⟨g, 0, none⟩ = some (.slice (some ⟨lb, y0, none⟩) n u0) ∧ W.cell? ⟨g, 1, none⟩ = some (.slice (some ⟨lb, y1, none⟩) n u1) ∧ W.cell? ⟨g, 2, none⟩ = some (.slice (some ⟨lb, y2, none⟩) n u2) ∧ W.cell? ⟨g, 3, none⟩ = some (.slice (some ⟨lb, y3, none⟩) n u3)) (by kernel_rfl) ?_
      change wpAnyH _ _ _ _ _ _ _ _ (World.drew _)
      have SW : wr.drew.cell? ⟨g, 0, none⟩ = some (.slice (some ⟨lb, y0, none⟩) n u0) ∧ wr.drew.cell? ⟨g, 1, none⟩ = some (.slice (some ⟨lb, y1, none⟩) n u1) ∧ wr.drew.cell? ⟨g, 2, none⟩ = some (.slice (some ⟨lb, y2, none⟩) n u2) ∧ wr.drew.cell? ⟨g, 3, none⟩ = some (.slice (some ⟨lb, y3, none⟩) n u3) := ⟨e0, e1, e2, e3⟩
      clear e0 e1 e2 e3
      refine wpAnyH_take (i := 0) (v := .slice none 0 0) rfl (by kernel_rfl) (by kernel_rfl) (by kernel_rfl) (fun _ _ _ h => h) (Or.inl ⟨by rfl, ?_⟩) SW ?_
      · intro W hW
        clear hW
        go_simp
      go_simp
      refine wpAnyH_take (i := 1) (v := .slice (some ⟨g, 0, none⟩) 4 cc) rfl (by kernel_rfl) (by kernel_rfl) (by kernel_rfl) (fun _ _ _ h => h) (Or.inl ⟨by rfl, ?_⟩) SW ?_
      · intro W hW
        clear hW
        go_simp
      go_simp
      refine wpAnyH_take (i := 2) (v := .pointer (some ⟨g, 3, none⟩)) rfl (by kernel_rfl) (by kernel_rfl) (by kernel_rfl) (fun _ _ _ h => h) (Or.inl ⟨by rfl, ?_⟩) SW ?_
      · intro W hW
        clear hW
        go_simp
      go_simp
      refine wpAnyH_take (i := 3) (v := .slice (some ⟨lb, y3, none⟩) n u3) rfl (by kernel_rfl) (by kernel_rfl) (by kernel_rfl) (fun _ _ _ h => h) (Or.inl ⟨by rfl, ?_⟩) SW ?_
      · intro W hW
        obtain ⟨x0, x1, x2, x3⟩ := hW
        go_simp
      go_simp
      refine wpAnyH_take (i := 4) (v := .slice (some ⟨g, 0, none⟩) 4 cc) rfl (by kernel_rfl) (by kernel_rfl) (by kernel_rfl) (fun _ _ _ h => h) (Or.inl ⟨by rfl, ?_⟩) SW ?_
      · intro W hW
        clear hW
        go_simp
      go_simp
      refine wpAnyH_take (i := 5) (v := .pointer (some ⟨g, 0, none⟩)) rfl (by kernel_rfl) (by kernel_rfl) (by kernel_rfl) (fun _ _ _ h => h) (Or.inl ⟨by rfl, ?_⟩) SW ?_
      · intro W hW
        clear hW
        go_simp
      go_simp
      refine wpAnyH_take (i := 6) (v := .slice (some ⟨lb, y0, none⟩) n u0) rfl (by kernel_rfl) (by kernel_rfl) (by kernel_rfl) (fun _ _ _ h => h) (Or.inl ⟨by rfl, ?_⟩) SW ?_
      · intro W hW
        obtain ⟨x0, x1, x2, x3⟩ := hW
        go_simp
      go_simp
      refine wpAnyH_take (i := 7) (v := .slice (some ⟨g, 0, none⟩) 4 cc) rfl (by kernel_rfl) (by kernel_rfl) (by kernel_rfl) (fun _ _ _ h => h) (Or.inl ⟨by rfl, ?_⟩) SW ?_
      · intro W hW
        clear hW
        go_simp
      go_simp
      refine wpAnyH_take (i := 8) (v := .pointer (some ⟨g, 1, none⟩)) rfl (by kernel_rfl) (by kernel_rfl) (by kernel_rfl) (fun _ _ _ h => h) (Or.inl ⟨by rfl, ?_⟩) SW ?_
      · intro W hW
        clear hW
        go_simp
      go_simp
      refine wpAnyH_take (i := 9) (v := .slice (some ⟨lb, y1, none⟩) n u1) rfl (by kernel_rfl) (by kernel_rfl) (by kernel_rfl) (fun _ _ _ h => h) (Or.inl ⟨by rfl, ?_⟩) SW ?_
      · intro W hW
        obtain ⟨x0, x1, x2, x3⟩ := hW
        go_simp
      go_simp
      refine wpAnyH_take (i := 10) (v := .slice (some ⟨g, 0, none⟩) 4 cc) rfl (by kernel_rfl) (by kernel_rfl) (by kernel_rfl) (fun _ _ _ h => h) (Or.inl ⟨by rfl, ?_⟩) SW ?_
      · intro W hW
        clear hW
        go_simp
      go_simp
      refine wpAnyH_take (i := 11) (v := .pointer (some ⟨g, 2, none⟩)) rfl (by kernel_rfl) (by kernel_rfl) (by kernel_rfl) (fun _ _ _ h => h) (Or.inl ⟨by rfl, ?_⟩) SW ?_
      · intro W hW
        clear hW
        go_simp
      go_simp
      refine wpAnyH_take (i := 12) (v := .slice (some ⟨lb, y2, none⟩) n u2) rfl (by kernel_rfl) (by kernel_rfl) (by kernel_rfl) (fun _ _ _ h => h) (Or.inl ⟨by rfl, ?_⟩) SW ?_
      · intro W hW
        obtain ⟨x0, x1, x2, x3⟩ := hW
        go_simp
      go_simp
      refine wpAnyH_ready (rs := [13]) (by kernel_rfl) (by simp) ?_
      refine AllReadyH.cons rfl (fun K1 hK1 => ?_) AllReadyH.nil
      go_simp
      have BWA : Below wr.heap.size wr (wr.alloc (Obj.cells #[.slice (some ⟨lb, y3, none⟩) n u3, .slice (some ⟨lb, y0, none⟩) n u0, .slice (some ⟨lb, y1, none⟩) n u1, .slice (some ⟨lb, y2, none⟩) n u2] 27)).drew := ((Below.refl _ wr).alloc (Nat.le_refl _) _).drew
      have FN := four_news wr (.slice (some ⟨lb, y3, none⟩) n u3) (.slice (some ⟨lb, y0, none⟩) n u0) (.slice (some ⟨lb, y1, none⟩) n u1) (.slice (some ⟨lb, y2, none⟩) n u2)
      have SWA := (⟨(BWA.cell (p := ⟨g, 0, none⟩) hgs).trans SW.1, (BWA.cell (p := ⟨g, 1, none⟩) hgs).trans SW.2.1, (BWA.cell (p := ⟨g, 2, none⟩) hgs).trans SW.2.2.1, (BWA.cell (p := ⟨g, 3, none⟩) hgs).trans SW.2.2.2⟩ : ((wr.alloc (Obj.cells #[.slice (some ⟨lb, y3, none⟩) n u3, .slice (some ⟨lb, y0, none⟩) n u0, .slice (some ⟨lb, y1, none⟩) n u1, .slice (some ⟨lb, y2, none⟩) n u2] 27)).drew).cell? ⟨g, 0, none⟩ = some (.slice (some ⟨lb, y0, none⟩) n u0) ∧ ((wr.alloc (Obj.cells #[.slice (some ⟨lb, y3, none⟩) n u3, .slice (some ⟨lb, y0, none⟩) n u0, .slice (some ⟨lb, y1, none⟩) n u1, .slice (some ⟨lb, y2, none⟩) n u2] 27)).drew).cell? ⟨g, 1, none⟩ = some (.slice (some ⟨lb, y1, none⟩) n u1) ∧ ((wr.alloc (Obj.cells #[.slice (some ⟨lb, y3, none⟩) n u3, .slice (some ⟨lb, y0, none⟩) n u0, .slice (some ⟨lb, y1, none⟩) n u1, .slice (some ⟨lb, y2, none⟩) n u2] 27)).drew).cell? ⟨g, 2, none⟩ = some (.slice (some ⟨lb, y2, none⟩) n u2) ∧ ((wr.alloc (Obj.cells #[.slice (some ⟨lb, y3, none⟩) n u3, .slice (some ⟨lb, y0, none⟩) n u0, .slice (some ⟨lb, y1, none⟩) n u1, .slice (some ⟨lb, y2, none⟩) n u2] 27)).drew).cell? ⟨g, 3, none⟩ = some (.slice (some ⟨lb, y3, none⟩) n u3))
      refine hK1.out _ _ SWA (fun SW' => ?_)
      clear hK1 K1 SW SW'
      have hBWA := hide BWA
      have hFN := hide FN
      clear BWA FN
      generalize (wr.alloc (Obj.cells #[.slice (some ⟨lb, y3, none⟩) n u3, .slice (some ⟨lb, y0, none⟩) n u0, .slice (some ⟨lb, y1, none⟩) n u1, .slice (some ⟨lb, y2, none⟩) n u2] 27)).drew = WA at *
      refine wpAnyH_ready (rs := [14]) (by kernel_rfl) (by simp) ?_
      refine AllReadyH.cons rfl (fun K1 hK1 => ?_) AllReadyH.nil
      rw [if_pos (by rfl)]
      refine wp_append_own _ (.tmp 44) (.tmp 57) 22 rfl w2.heap.size 27 i0 (.slice none 0 0) 1 24 Tryd.underlying22 hi0 hz0 hz1 hz2 rfl (by decide) _ 0 [] rfl (World.ownsRow_nil _ _ _ _) ⟨wr.heap.size, 0, none⟩ 4 4 [.slice (some ⟨lb, y3, none⟩) n u3, .slice (some ⟨lb, y0, none⟩) n u0, .slice (some ⟨lb, y1, none⟩) n u1, .slice (some ⟨lb, y2, none⟩) n u2] rfl (by simp) hFN.out (by simp [Value.oneCell']) (by unfold maxLen; omega) (by omega) (by have := hB.out.size; have h9 := hBWA.out.size; omega) ?_
      intro v5 w5 O5 G5 _
      have hB5 : Below WA.heap.size WA w5 := ⟨G5.os, G5.tape, G5.output, G5.size, fun j hj => G5.block j hj (by intro e; cases e)⟩
      have hgA : g < WA.heap.size := World.block_lt_of_cell? WA _ SWA.1
      have SW5 := (⟨(hB5.cell (p := ⟨g, 0, none⟩) hgA).trans SWA.1, (hB5.cell (p := ⟨g, 1, none⟩) hgA).trans SWA.2.1, (hB5.cell (p := ⟨g, 2, none⟩) hgA).trans SWA.2.2.1, (hB5.cell (p := ⟨g, 3, none⟩) hgA).trans SWA.2.2.2⟩ : w5.cell? ⟨g, 0, none⟩ = some (.slice (some ⟨lb, y0, none⟩) n u0) ∧ w5.cell? ⟨g, 1, none⟩ = some (.slice (some ⟨lb, y1, none⟩) n u1) ∧ w5.cell? ⟨g, 2, none⟩ = some (.slice (some ⟨lb, y2, none⟩) n u2) ∧ w5.cell? ⟨g, 3, none⟩ = some (.slice (some ⟨lb, y3, none⟩) n u3))
      obtain ⟨g5, c5, rfl, hc54, hc5m⟩ : ∃ g5 c5, v5 = .slice (some ⟨g5, 0, none⟩) 4 c5 ∧ 4 ≤ c5 ∧ c5 ≤ 9223372036854775807 := by
        rcases O5.2 with ⟨hv, h0⟩ | ⟨g, cap, cur, hv, hb, hg, hnc, hcm, -⟩
        · omega
        · unfold maxLen at hcm
          exact ⟨g, cap, hv, by omega, by omega⟩
      have hBr5 : Below wr.heap.size wr w5 := hBWA.out.trans (hB5.mono hBWA.out.size)
      have O5' : w5.ownsRow w2.heap.size 27 1 (.slice (some ⟨g5, 0, none⟩) 4 c5) 4 ((List.range 4).map (fun p => hv lb lo lc n ((p + 3) % 4))) := by
        obtain ⟨q0, q1, q2, q3, t0, t1, t2, t3⟩ := HYS.out
        have e : (List.range 4).map (fun p => hv lb lo lc n ((p + 3) % 4)) = [.slice (some ⟨lb, y3, none⟩) n u3, .slice (some ⟨lb, y0, none⟩) n u0, .slice (some ⟨lb, y1, none⟩) n u1, .slice (some ⟨lb, y2, none⟩) n u2] := by
          rw [← q0, ← q1, ← q2, ← q3, ← t0, ← t1, ← t2, ← t3]
          rfl
        rw [e]
        exact O5
      have HM5 : Hid (HS w5 g5 n (fun p => Zh L n ((p + 3) % 4))) := hide (hs_of_own O5' (fun j hj => ⟨_, _, rfl, (hRd.out ((j + 3) % 4) (Nat.mod_lt _ (by omega))).mono hBr5⟩))
      have HH5 := hide (HHS.out.below hBr5)
      have HB5 := hide ((HB2.out.trans (hB.out.mono HB2.out.size)).trans (hBr5.mono (by have := HB2.out.size; have h9 := hB.out.size; omega)))
      refine hK1.out _ _ SW5 (fun SW' => ?_)
      clear hK1 K1 SW' SWA O5 O5' G5 hB5 hBr5 hFN hBWA HHS hRd
      go_simp
      refine wpAnyH_take (i := 15) (v := .slice (some ⟨g5, 0, none⟩) 4 c5) rfl (by kernel_rfl) (by kernel_rfl) (by kernel_rfl) (fun _ _ _ h => h) (Or.inl ⟨by rfl, ?_⟩) SW5 ?_
      · intro W hW
        clear hW
        go_simp
      go_simp
      refine wpAnyH_done (by kernel_rfl) ?_ _
      clear SW5 hB hO
      have T5 := hide (fun W (hW : Below w.heap.size w W) => (fun i hi => (hW.cell (p := ⟨0, i, none⟩) h0s).trans (HT.out i hi) : Tab W))
      have B1 := hide (Best_ok g cc n (Zh L n) HU.out hn1 (by omega) s k2 ld k3 HZ.out hcap4 hcapm w5 (T5.out _ HB5.out) HH5.out)
      obtain ⟨l2, hl2⟩ : ∃ l2, (ld + 1) % 4 = l2 := ⟨_, rfl⟩
      have htm : Int.tmod ((ld : Int) + 1) 4 = (l2 : Int) := by rw [Int.tmod_eq_emod_of_nonneg (by omega)]; omega
      have B2 := hide (fun W (hW : Below w5.heap.size w5 W) => Best_ok g5 c5 n (fun p => Zh L n ((p + 3) % 4)) (un_moved _ HU.out) hn1 (by omega) s k2 l2 (by omega) (fun i hi => HZ.out _ (Nat.mod_lt _ (by omega))) hc54 hc5m W (T5.out _ (HB5.out.trans (hW.mono HB5.out.size))) (HM5.out.below hW))
      have HL2 := hide hl2
      clear hl2
      go_wp2_with fail
      refine (P2.out _).mono ?_
      rintro e w6 ⟨rfl, hw⟩
      subst w6
      go_wp2_with fail
      refine (P3.out _).mono ?_
      rintro e w6 ⟨rfl, hw⟩
      subst w6
      go_wp2_with fail
      refine B1.out.mono ?_
      rintro e w6 ⟨m1, hold1, -, hP1, rfl, hb6⟩
      have HP1 := hide hP1
      have HB6 := hide hb6
      clear hP1 hb6
      go_wp2_with fail
      refine (B2.out _ HB6.out).mono ?_
      rintro e w7 ⟨m2, hold2, -, hP2, rfl, hb7⟩
      have TS := turn_sum (Zh L n) n hn1 HZ.out (s : Int) ld k3 m1 m2 hold1 hold2 HP1.out hP2
      rw [HL2.out] at TS
      have HB7 := hide (HB5.out.trans ((HB6.out.trans (hb7.mono HB6.out.size)).mono HB5.out.size))
      clear hb7 hP2
      generalize TrV m1 hold1 s ld n = x1 at *
      generalize TrV m2 hold2 s l2 n = x2 at *
      have d1 : (x1 : Int) ≤ (n : Int) := by omega
      have d2 : (x1 : Int) + (x2 : Int) = (n : Int) := by omega
      clear TS
      go_wp2
      go_ret
      refine ⟨ret_b ?_, HB7.out⟩
      first | rfl | (simp [d1, d2]; done) | (simp; done)

end Go.Proofs.YtiihnlpoagnkhaaDoor
