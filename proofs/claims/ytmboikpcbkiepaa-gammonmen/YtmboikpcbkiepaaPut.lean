/-
  putGammon: a board is put into a list, once, in order. No conditions beyond those that each theorem bears.
-/
import Derived.Test.YtmboikpcbkiepaaBl
import Derived.OrdersHeld
import Derived.Deep.RegionHeld3
import Derived.Deep.MidRow
namespace Go.Proofs.Ytmboikpcbkiepaa
open Go.RowKit

def lessO (x y : Bo) : Bool := lexL (kyB x.P x.W x.B) (kyB y.P y.W y.B)
def sameO (x y : Bo) : Bool := decide (x.P = y.P ∧ x.W = y.W ∧ x.B = y.B)

/-- Where the smaller ones end. -/
def plc (L : List Bo) (b : Bo) : Nat := (L.takeWhile fun x => lessO x b).length

theorem plc_le (L : List Bo) (b : Bo) : plc L b ≤ L.length := (List.takeWhile_sublist _).length_le

theorem plc_spec (b : Bo) : ∀ (L : List Bo) (k : Nat), k ≤ L.length → (∀ i, i < k → lessO (L.getD i b0) b = true) → (k < L.length → lessO (L.getD k b0) b = false) → plc L b = k
  | [], k, hk, _, _ => by
    obtain rfl : k = 0 := by simpa using hk
    rfl
  | x :: L, 0, _, _, h => by
    have := h (by simp)
    simp only [List.getD_cons_zero] at this
    unfold plc
    rw [List.takeWhile_cons, this]
    rfl
  | x :: L, k + 1, hk, h1, h2 => by
    have h0 := h1 0 (by omega)
    simp only [List.getD_cons_zero] at h0
    have ih := plc_spec b L k (by simpa using hk) (fun i hi => by have := h1 (i + 1) (by omega); simpa using this) (fun h => by have := h2 (by simpa using h); simpa using this)
    unfold plc at ih ⊢
    rw [List.takeWhile_cons, h0]
    simp only [if_true, List.length_cons, ih]

def putL (L : List Bo) (b : Bo) : List Bo := if plc L b < L.length ∧ sameO (L.getD (plc L b) b0) b = true then L else L.take (plc L b) ++ [b] ++ L.drop (plc L b)

theorem Bs.upto {base : Nat} {w : World} {T : Int} {ga n cap : Nat} {L : List Bo} (h : Bs base w T (.slice (some ⟨ga, 0, none⟩) n cap) L) {k : Nat} (hk : k ≤ L.length) :
    ∃ us, Bv w T us (L.take k) ∧ ∀ j u, us[j]? = some u → w.cell? ((⟨ga, 0, none⟩ : Addr).add j) = some u := by
  obtain ⟨vs, h1, h2, _⟩ := h
  obtain rfl : n = L.length := by
    rcases h1.2 with ⟨hv, _⟩ | ⟨_, _, _, hv, _⟩
    · cases hv
    · simp only [Value.slice.injEq] at hv; exact hv.2.1
  refine ⟨_, (h2.split k hk).1, fun j u hu => ?_⟩
  rw [List.getElem?_take] at hu
  split at hu
  · have hl := (List.getElem?_eq_some_iff.1 hu).1
    rw [Addr.add_lit, Nat.zero_add, h1.cellAt j (by rw [← h1.1]; exact hl)]
    exact hu
  · cases hu

theorem Bs.behind {base : Nat} {w : World} {T : Int} {ga n cap : Nat} {L : List Bo} (h : Bs base w T (.slice (some ⟨ga, 0, none⟩) n cap) L) {k : Nat} (hk : k ≤ L.length) :
    ∃ us, Bv w T us (L.drop k) ∧ ∀ j u, us[j]? = some u → w.cell? ((⟨ga, k * 4, none⟩ : Addr).add j) = some u := by
  obtain ⟨vs, h1, h2, _⟩ := h
  obtain rfl : n = L.length := by
    rcases h1.2 with ⟨hv, _⟩ | ⟨_, _, _, hv, _⟩
    · cases hv
    · simp only [Value.slice.injEq] at hv; exact hv.2.1
  refine ⟨_, (h2.split k hk).2, fun j u hu => ?_⟩
  rw [List.getElem?_drop] at hu
  have hl := (List.getElem?_eq_some_iff.1 hu).1
  rw [Addr.add_lit, h1.cellAt (k * 4 + j) (by rw [← h1.1]; exact hl)]
  exact hu

theorem Gm.range {w : World} {b g c : Nat} {W B T : Int} (h : Gm w b (some ⟨g, 0, none⟩) 26 c W B T) : w.rangeAt b 0 [.slice (some ⟨g, 0, none⟩) 26 c, .int .i64 W, .int .i64 B, .int .i64 T] := by
  intro j v hv
  obtain ⟨h0, h1, h2, h3⟩ := h.cells
  rw [Nat.zero_add]
  match j, hv with
  | 0, hv => rw [h0]; exact hv
  | 1, hv => rw [h1]; exact hv
  | 2, hv => rw [h2]; exact hv
  | 3, hv => rw [h3]; exact hv
  | j + 4, hv => simp at hv

attribute [local irreducible] lexL kyB lessO sameO plc

set_option maxRecDepth 100000 in
set_option maxHeartbeats 4000000 in
theorem put_any (v : Value) (L : List Bo) (g c : Nat) (b : Bo) (T : Int) (w : World) (hL : Bs 0 w T v L) (hn : L.length ≤ 10000000) (hb : Rd w (some ⟨g, 0, none⟩) 26 c b.P) :
    Calls Try.prog 44 #[v, .agg (gmA (some ⟨g, 0, none⟩) 26 c b.W b.B T)] w fun e w' => ∃ v', e = .returned v' ∧ Bs 0 w' T v' (putL L b) ∧ Below w.heap.size w w' := by
  obtain ⟨la, cap, rfl, hcap, hmax, hga⟩ := hL.form
  unfold maxLen at hmax
  obtain ⟨n, hnl⟩ : ∃ n, L.length = n := ⟨_, rfl⟩
  rw [hnl] at hL hcap hn ⊢
  have HLN := hide hnl
  have HPS := hide (fun k => plc_spec b L k)
  have HPU : Hid (∀ k, plc L b = k → putL L b = if k < L.length ∧ sameO (L.getD k b0) b = true then L else L.take k ++ [b] ++ L.drop k) := hide (fun k hk => by subst hk; rfl)
  obtain ⟨R, hR⟩ : ∃ R, putL L b = R := ⟨_, rfl⟩
  rw [hR] at HPU ⊢
  rw [hnl] at HPS HPU
  obtain ⟨w1, hw1⟩ : ∃ w1, w.alloc (.cells (gmA (some ⟨g, 0, none⟩) 26 c b.W b.B T) 24) = w1 := ⟨_, rfl⟩
  have HB1 : Hid (Below w.heap.size w w1) := hide (by rw [← hw1]; exact (Below.refl _ w).alloc (Nat.le_refl _) _)
  have HG1 : Hid (Gm w1 w.heap.size (some ⟨g, 0, none⟩) 26 c b.W b.B T) := hide (by rw [← hw1]; exact Gm.new w _ _ _ _ _ _)
  have HLL := hide hL
  have HRB := hide hb
  have HGA := hide hga
  clear hR hL hb hga hnl
  go_enter Try.func44, Try.ntmps44
  go_upto_region 1 with fail
  clear hw1
  go_wp2_with fail
  go_loopw [5] (fun u wr => ∃ k : Nat, u = .int .i64 k ∧ k ≤ n ∧ Hid (∀ i, i < k → lessO (L.getD i b0) b = true) ∧ Hid (Below w1.heap.size w1 wr)) (fun u _ => n - (intOf u).toNat)
  case atStart => exact ⟨0, rfl, by omega, hide (fun i hi => by omega), hide (Below.refl _ _)⟩
  case round =>
    obtain ⟨k, rfl, hk, hLS, hB⟩ := hrel
    have HBW := hide (HB1.out.trans (hB.out.mono HB1.out.size))
    by_cases hlt : k < n
    · have hlt' : (k : Int) < (n : Int) := by omega
      have hne : L ≠ [] := by
        intro e
        have := HLN.out
        rw [e] at this
        simp at this
        omega
      obtain ⟨ga, hla⟩ := HGA.out hne
      subst hla
      obtain ⟨gi, ci, hrg, hRi⟩ := (HLL.out.below HBW.out).at (j := k) (by rw [HLN.out]; exact hlt)
      have hgl : ga < wr.heap.size := World.block_lt_of_cell? wr _ (hrg 0 _ rfl)
      have HRG := hide (fun W (hW : Below wr.heap.size wr W) => (fun i v hv => (hW.cell (p := ⟨ga, 4 * k + i, none⟩) hgl).trans (hrg i v hv) : W.rangeAt ga (4 * k) (bv gi ci (L.getD k b0) T)))
      have HGW := hide (HG1.out.below hB.out HG1.out.lt)
      have HBG := hide (fun W (hW : Below wr.heap.size wr W) => (HGW.out.below hW HGW.out.lt).range)
      have HRI := hide hRi
      have HRW := hide (HRB.out.mono HBW.out)
      clear hrg hRi hgl hne
      obtain ⟨x, hx⟩ : ∃ x, L.getD k b0 = x := ⟨_, rfl⟩
      rw [hx] at HRG HRI
      have HXE := hide hx
      clear hx
      have HCL : Hid (∀ W, Below wr.heap.size wr W → Calls Try.prog 58 #[.agg (gmA (some ⟨gi, 0, none⟩) 26 ci x.W x.B T), .agg (gmA (some ⟨g, 0, none⟩) 26 c b.W b.B T)] W fun e w' => e = .returned (.bool (lessO x b)) ∧ Below W.heap.size W w') := hide (fun W hW => by
        unfold lessO
        exact less_any (some ⟨gi, 0, none⟩) (some ⟨g, 0, none⟩) ci c x.P b.P x.W x.B T b.W b.B T W (HRI.out.mono hW) (HRW.out.mono hW))
      have HCS : Hid (∀ W, Below wr.heap.size wr W → Calls Try.prog 14 #[.agg (gmA (some ⟨gi, 0, none⟩) 26 ci x.W x.B T), .agg (gmA (some ⟨g, 0, none⟩) 26 c b.W b.B T)] W fun e w' => e = .returned (.bool (sameO x b)) ∧ Below W.heap.size W w') := hide (fun W hW => by
        unfold sameO
        exact same_any (some ⟨gi, 0, none⟩) (some ⟨g, 0, none⟩) ci c x.P b.P x.W x.B T b.W b.B W (HRI.out.mono hW) (HRW.out.mono hW))
      obtain ⟨r, hr⟩ : ∃ r, lessO x b = r := ⟨_, rfl⟩
      rw [hr] at HCL
      have HLE := hide hr
      clear hr
      go_wp2_with fail
      have SW : Below wr.heap.size wr wr.drew := (Below.refl _ wr).drew
      refine wp_region_held (S := fun W => Below wr.heap.size wr W) (by kernel_rfl) ?_
      change wpAnyH _ _ _ _ _ _ _ _ (World.drew _)
      refine wpAnyH_take (i := 0) (v := .int .i64 k) rfl (by kernel_rfl) (by kernel_rfl) (by kernel_rfl) (fun _ _ _ h => h) (Or.inl ⟨by rfl, ?_⟩) SW ?_
      · intro W _
        go_simp <;> first | done | rfl | (rw [IntKind.wrap_i64]; omega) | (intro hh; exfalso; omega)
      go_simp
      refine wpAnyH_take (i := 1) (v := .slice (some ⟨ga, 0, none⟩) n cap) rfl (by kernel_rfl) (by kernel_rfl) (by kernel_rfl) (fun _ _ _ h => h) (Or.inl ⟨by rfl, ?_⟩) SW ?_
      · intro W _
        go_simp <;> first | done | rfl | (rw [IntKind.wrap_i64]; omega) | (intro hh; exfalso; omega)
      go_simp
      refine wpAnyH_take (i := 2) (v := .int .i64 n) rfl (by kernel_rfl) (by kernel_rfl) (by kernel_rfl) (fun _ _ _ h => h) (Or.inl ⟨by rfl, ?_⟩) SW ?_
      · intro W _
        go_simp <;> first | done | rfl | (rw [IntKind.wrap_i64]; omega) | (intro hh; exfalso; omega)
      go_simp
      refine wpAnyH_take (i := 3) (v := .bool true) rfl (by kernel_rfl) (by kernel_rfl) (by kernel_rfl) (fun _ _ _ h => h) (Or.inl ⟨by rfl, ?_⟩) SW ?_
      · intro W _
        go_simp <;> first | done | rfl | (rw [IntKind.wrap_i64]; omega) | (intro hh; exfalso; omega)
      go_simp
      refine wpAnyH_take (i := 4) (v := .bool true) rfl (by kernel_rfl) (by kernel_rfl) (by kernel_rfl) (fun _ _ _ h => h) (Or.inl ⟨by rfl, ?_⟩) SW ?_
      · intro W _
        go_simp <;> first | done | rfl | (rw [IntKind.wrap_i64]; omega) | (intro hh; exfalso; omega)
      go_simp
      refine wpAnyH_take (i := 5) (v := .slice (some ⟨ga, 0, none⟩) n cap) rfl (by kernel_rfl) (by kernel_rfl) (by kernel_rfl) (fun _ _ _ h => h) (Or.inl ⟨by rfl, ?_⟩) SW ?_
      · intro W _
        go_simp <;> first | done | rfl | (rw [IntKind.wrap_i64]; omega) | (intro hh; exfalso; omega)
      go_simp
      refine wpAnyH_take (i := 6) (v := .int .i64 k) rfl (by kernel_rfl) (by kernel_rfl) (by kernel_rfl) (fun _ _ _ h => h) (Or.inl ⟨by rfl, ?_⟩) SW ?_
      · intro W _
        go_simp <;> first | done | rfl | (rw [IntKind.wrap_i64]; omega) | (intro hh; exfalso; omega)
      go_simp
      refine wpAnyH_take (i := 7) (v := .pointer (some ⟨ga, 4 * k, none⟩)) rfl (by kernel_rfl) (by kernel_rfl) (by kernel_rfl) (fun _ _ _ h => h) (Or.inl ⟨by rfl, ?_⟩) SW ?_
      · intro W _
        go_simp <;> first | done | rfl | (congr 3; omega) | (simp; omega)
      go_simp
      refine wpAnyH_take (i := 8) (v := .agg (bv gi ci x T).toArray) rfl (by kernel_rfl) (by kernel_rfl) (by kernel_rfl) (fun _ _ _ h => h) (yieldsIf_load_mid (by rfl) 24 _ rfl ga (4 * k) (by rfl) (bv gi ci x T) _ (fun W hW => HRG.out W hW) Try.underlying24 rfl size24) SW ?_
      go_simp
      refine wpAnyH_take (i := 9) (v := .agg (bv g c b T).toArray) rfl (by kernel_rfl) (by kernel_rfl) (by kernel_rfl) (fun _ _ _ h => h) (yieldsIf_load_mid (by rfl) 24 _ rfl w.heap.size 0 (by rfl) (bv g c b T) _ (fun W hW => HBG.out W hW) Try.underlying24 rfl size24) SW ?_
      go_simp
      refine wpAnyH_ready (rs := [10]) (by kernel_rfl) (by simp) ?_
      refine AllReadyH.cons rfl (fun K1 hK1 => ?_) AllReadyH.nil
      go_simp
      refine (HCL.out _ SW).mono ?_
      rintro e w6 ⟨rfl, hb6⟩
      refine hK1.out _ _ (SW.trans (hb6.mono SW.size)) (fun SW => ?_)
      clear hK1 K1
      go_simp
      refine wpAnyH_take (i := 11) (v := .bool r) rfl (by kernel_rfl) (by kernel_rfl) (by kernel_rfl) (fun _ _ _ h => h) (Or.inl ⟨by rfl, ?_⟩) SW ?_
      · intro W _
        go_simp <;> first | done | rfl | (cases r <;> rfl)
      go_simp
      refine wpAnyH_done (by kernel_rfl) ?_ _
      have HB6 := hide (hB.out.trans (SW.mono hB.out.size))
      have HS6 := hide SW
      clear SW hb6
      cases r with
      | true =>
        go_wp2_with fail
        exact ⟨⟨k + 1, by go_num, by omega, hide (fun i hi => by
          by_cases e : i = k
          · subst e; rw [HXE.out]; exact HLE.out
          · exact hLS.out i (by omega)), HB6⟩, by simp [intOf]; omega⟩
      | false =>
        have hpl := HPS.out k (by omega) hLS.out (fun _ => by rw [HXE.out]; exact HLE.out)
        have HRE := hide (HPU.out k hpl)
        obtain ⟨r2, hr2⟩ : ∃ r2, sameO x b = r2 := ⟨_, rfl⟩
        rw [hr2] at HCS
        rw [HXE.out, hr2] at HRE
        have HCS6 := hide (fun W (hW : Below w6.heap.size w6 W) => HCS.out W (HS6.out.trans (hW.mono HS6.out.size)))
        have HRG6 := hide (fun W (hW : Below w6.heap.size w6 W) => HRG.out W (HS6.out.trans (hW.mono HS6.out.size)))
        have HBG6 := hide (fun W (hW : Below w6.heap.size w6 W) => HBG.out W (HS6.out.trans (hW.mono HS6.out.size)))
        clear HCS HRG HBG HCL HLE hLS hr2 hpl HPS HPU HS6 hB HRI HRW HGW HBW
        go_wp2_with fail
        have SW : Below w6.heap.size w6 w6.drew := (Below.refl _ w6).drew
        refine wp_region_held (S := fun W => Below w6.heap.size w6 W) (by kernel_rfl) ?_
        change wpAnyH _ _ _ _ _ _ _ _ (World.drew _)
        refine wpAnyH_take (i := 0) (v := .int .i64 k) rfl (by kernel_rfl) (by kernel_rfl) (by kernel_rfl) (fun _ _ _ h => h) (Or.inl ⟨by rfl, ?_⟩) SW ?_
        · intro W _
          go_simp <;> first | done | rfl | (rw [IntKind.wrap_i64]; omega) | (intro hh; exfalso; omega)
        go_simp
        refine wpAnyH_take (i := 1) (v := .slice (some ⟨ga, 0, none⟩) n cap) rfl (by kernel_rfl) (by kernel_rfl) (by kernel_rfl) (fun _ _ _ h => h) (Or.inl ⟨by rfl, ?_⟩) SW ?_
        · intro W _
          go_simp <;> first | done | rfl | (rw [IntKind.wrap_i64]; omega) | (intro hh; exfalso; omega)
        go_simp
        refine wpAnyH_take (i := 2) (v := .int .i64 n) rfl (by kernel_rfl) (by kernel_rfl) (by kernel_rfl) (fun _ _ _ h => h) (Or.inl ⟨by rfl, ?_⟩) SW ?_
        · intro W _
          go_simp <;> first | done | rfl | (rw [IntKind.wrap_i64]; omega) | (intro hh; exfalso; omega)
        go_simp
        refine wpAnyH_take (i := 3) (v := .bool true) rfl (by kernel_rfl) (by kernel_rfl) (by kernel_rfl) (fun _ _ _ h => h) (Or.inl ⟨by rfl, ?_⟩) SW ?_
        · intro W _
          go_simp <;> first | done | rfl | (rw [IntKind.wrap_i64]; omega) | (intro hh; exfalso; omega)
        go_simp
        refine wpAnyH_take (i := 4) (v := .bool true) rfl (by kernel_rfl) (by kernel_rfl) (by kernel_rfl) (fun _ _ _ h => h) (Or.inl ⟨by rfl, ?_⟩) SW ?_
        · intro W _
          go_simp <;> first | done | rfl | (rw [IntKind.wrap_i64]; omega) | (intro hh; exfalso; omega)
        go_simp
        refine wpAnyH_take (i := 5) (v := .slice (some ⟨ga, 0, none⟩) n cap) rfl (by kernel_rfl) (by kernel_rfl) (by kernel_rfl) (fun _ _ _ h => h) (Or.inl ⟨by rfl, ?_⟩) SW ?_
        · intro W _
          go_simp <;> first | done | rfl | (rw [IntKind.wrap_i64]; omega) | (intro hh; exfalso; omega)
        go_simp
        refine wpAnyH_take (i := 6) (v := .int .i64 k) rfl (by kernel_rfl) (by kernel_rfl) (by kernel_rfl) (fun _ _ _ h => h) (Or.inl ⟨by rfl, ?_⟩) SW ?_
        · intro W _
          go_simp <;> first | done | rfl | (rw [IntKind.wrap_i64]; omega) | (intro hh; exfalso; omega)
        go_simp
        refine wpAnyH_take (i := 7) (v := .pointer (some ⟨ga, 4 * k, none⟩)) rfl (by kernel_rfl) (by kernel_rfl) (by kernel_rfl) (fun _ _ _ h => h) (Or.inl ⟨by rfl, ?_⟩) SW ?_
        · intro W _
          go_simp <;> first | done | rfl | (congr 3; omega) | (simp; omega)
        go_simp
        refine wpAnyH_take (i := 8) (v := .agg (bv gi ci x T).toArray) rfl (by kernel_rfl) (by kernel_rfl) (by kernel_rfl) (fun _ _ _ h => h) (yieldsIf_load_mid (by rfl) 24 _ rfl ga (4 * k) (by rfl) (bv gi ci x T) _ (fun W hW => HRG6.out W hW) Try.underlying24 rfl size24) SW ?_
        go_simp
        refine wpAnyH_take (i := 9) (v := .agg (bv g c b T).toArray) rfl (by kernel_rfl) (by kernel_rfl) (by kernel_rfl) (fun _ _ _ h => h) (yieldsIf_load_mid (by rfl) 24 _ rfl w.heap.size 0 (by rfl) (bv g c b T) _ (fun W hW => HBG6.out W hW) Try.underlying24 rfl size24) SW ?_
        go_simp
        refine wpAnyH_ready (rs := [10]) (by kernel_rfl) (by simp) ?_
        refine AllReadyH.cons rfl (fun K1 hK1 => ?_) AllReadyH.nil
        go_simp
        refine (HCS6.out _ SW).mono ?_
        rintro e w7 ⟨rfl, hb6⟩
        refine hK1.out _ _ (SW.trans (hb6.mono SW.size)) (fun SW => ?_)
        clear hK1 K1
        go_simp
        refine wpAnyH_take (i := 11) (v := .bool r2) rfl (by kernel_rfl) (by kernel_rfl) (by kernel_rfl) (fun _ _ _ h => h) (Or.inl ⟨by rfl, ?_⟩) SW ?_
        · intro W _
          go_simp <;> first | done | rfl | (cases r <;> rfl)
        go_simp
        refine wpAnyH_done (by kernel_rfl) ?_ _
        have HB7 := hide (HB6.out.trans (SW.mono HB6.out.size))
        clear SW hb6
        have HBW := hide (HB1.out.trans (HB7.out.mono HB1.out.size))
        cases r2 with
        | true =>
          go_wp2_with fail
          go_ret
          refine ⟨_, rfl, ?_, HBW.out⟩
          rw [HRE.out, if_pos ⟨hlt, by simp⟩]
          exact HLL.out.below HBW.out
        | false =>
          rw [if_neg (by simp)] at HRE
          have hck : ¬ cap = k := by omega
          have hc0 : ¬ cap = 0 := by omega
          have HL7 := hide (HLL.out.below HBW.out)
          have HG7 := hide (HG1.out.below HB7.out HG1.out.lt)
          have HR7 := hide (HRB.out.mono HBW.out)
          obtain ⟨us, hV, hC⟩ := HL7.out.upto (k := k) (by rw [HLN.out]; omega)
          have HTK : Hid ((L.take k).length = k) := hide (by rw [List.length_take, HLN.out]; omega)
          have htk := HTK.out
          have hs17 := HBW.out.size
          clear HLL HB1 HB7 HG1 HRB
          go_wp2_with (at_builtin; refine wpList_append_bs w7 rfl _ _ rfl w7.heap.size T _ [] rfl (Bs.nil _ _ _) ⟨ga, 0, none⟩ k cap us (L.take k) rfl htk hC hV (by simp; omega) (Nat.le_refl _) ?_)
          intro v8 w8 hB8 hg8 _
          have hb8 : Below w7.heap.size w7 w8 := (Below.refl _ w7).grown hg8 (Nat.le_refl _) (fun q h => by cases h)
          have hB8 : Bs w7.heap.size w8 T v8 (L.take k) := hB8
          obtain ⟨a8, c8, rfl, -, -, -⟩ := hB8.form
          rw [htk] at hB8
          have G8 := HG7.out.below hb8 HG7.out.lt
          have hB9 := hB8.below ((Below.refl _ w8).alloc (Nat.le_refl _) (.cells #[.slice (some ⟨g, 0, none⟩) 26 c, .int .i64 b.W, .int .i64 b.B, .int .i64 T] 24))
          have hb9 := hb8.alloc hb8.size (.cells #[.slice (some ⟨g, 0, none⟩) 26 c, .int .i64 b.W, .int .i64 b.B, .int .i64 T] 24)
          have hR9 := (HR7.out.mono hb9)
          have hC9 : ∀ j u, (bv g c b T)[j]? = some u → (w8.alloc (.cells #[.slice (some ⟨g, 0, none⟩) 26 c, .int .i64 b.W, .int .i64 b.B, .int .i64 T] 24)).cell? ((⟨w8.heap.size, 0, none⟩ : Addr).add j) = some u := by
            intro j u hu
            rw [Addr.add_lit, Nat.zero_add]
            simp only [World.cell?, heap_alloc_new]
            match j, hu with
            | 0, hu => exact hu
            | 1, hu => exact hu
            | 2, hu => exact hu
            | 3, hu => exact hu
            | j + 4, hu => simp at hu
          have hV9 : Bv (w8.alloc (.cells #[.slice (some ⟨g, 0, none⟩) 26 c, .int .i64 b.W, .int .i64 b.B, .int .i64 T] 24)) T (bv g c b T) [b] := ⟨g, c, [], by simp, hR9, rfl⟩
          have hs8 := hb8.size
          have hsz : w7.heap.size ≤ (w8.alloc (.cells #[.slice (some ⟨g, 0, none⟩) 26 c, .int .i64 b.W, .int .i64 b.B, .int .i64 T] 24)).heap.size := by simp; omega
          obtain ⟨w9, hw9⟩ : ∃ w9, w8.alloc (.cells #[.slice (some ⟨g, 0, none⟩) 26 c, .int .i64 b.W, .int .i64 b.B, .int .i64 T] 24) = w9 := ⟨_, rfl⟩
          rw [hw9] at hB9 hb9 hC9 hV9 hsz
          have HB9 := hide hb9
          have hlk : (L.take k).length + 1 ≤ 100000000 := by omega
          clear hR9 hg8 hB8 hV hC
          go_wp2_with (first | refine wpList_load_gm rfl (.tmp 3) rfl w.heap.size rfl G8 ?_ | (at_builtin; refine wpList_append_bs w9 rfl _ _ rfl w7.heap.size T _ (L.take k) (by first | rfl | rw [htk]) hB9 ⟨w8.heap.size, 0, none⟩ 1 1 (bv g c b T) [b] rfl rfl hC9 hV9 hlk hsz ?_))
          intro v10 w10 hB10 hg10 hq10
          obtain ⟨a10, c10, rfl, -, -, -⟩ := hB10.form
          have hb10 := HB9.out.grown hg10 hsz hq10
          have hs10 := hb10.size
          have HB10 := hide hb10
          obtain ⟨us2, hV2, hC2⟩ := (HL7.out.below hb10).behind (k := k) (by rw [HLN.out]; omega)
          have hdl : (L.drop k).length = n - k := by rw [List.length_drop, HLN.out]
          have hl2 : (L.take k ++ [b]).length + (n - k) ≤ 100000000 := by rw [List.length_append, htk]; simp; omega
          clear G8 hB9 hb9 hC9 hV9 hw9 hg10 hq10 hb10 HB9 hsz hlk hs8 hb8 HG7 HR7 HL7
          go_wp2_with (at_builtin; refine wpList_append_bs w10 rfl _ _ rfl w7.heap.size T _ (L.take k ++ [b]) rfl hB10 ⟨ga, k * 4, none⟩ (n - k) (cap - k) us2 (L.drop k) rfl hdl hC2 hV2 hl2 hs10 ?_)
          intro v11 w11 hB11 hg11 hq11
          have hb11 := HB10.out.grown hg11 hs10 hq11
          have HB11 := hide (HBW.out.trans (hb11.mono hs17))
          have HBS := hide hB11
          clear hB11 hg11 hq11 hb11 HB10 hV2 hC2 hB10
          go_wp2_with fail
          go_ret
          refine ⟨v11, rfl, ?_, HB11.out⟩
          rw [HRE.out, List.append_assoc]
          exact HBS.out.base (Nat.zero_le _)
    · have hlt' : ¬ (k : Int) < (n : Int) := by omega
      obtain rfl : k = n := by omega
      have hpl := HPS.out k (Nat.le_refl _) hLS.out (fun h => absurd h hlt)
      have HRE := hide (HPU.out k hpl)
      rw [if_neg (fun h => hlt h.1)] at HRE
      clear HPS HPU hpl hLS HBW
      go_wp2_with fail
      have SW : Below wr.heap.size wr wr.drew := (Below.refl _ wr).drew
      refine wp_region_held (S := fun W => Below wr.heap.size wr W) (by kernel_rfl) ?_
      change wpAnyH _ _ _ _ _ _ _ _ (World.drew _)
      refine wpAnyH_take (i := 0) (v := .int .i64 k) rfl (by kernel_rfl) (by kernel_rfl) (by kernel_rfl) (fun _ _ _ h => h) (Or.inl ⟨by rfl, ?_⟩) SW ?_
      · intro W _
        go_simp <;> first | done | rfl | (rw [IntKind.wrap_i64]; omega) | (intro hh; exfalso; omega)
      go_simp
      refine wpAnyH_take (i := 1) (v := .slice la k cap) rfl (by kernel_rfl) (by kernel_rfl) (by kernel_rfl) (fun _ _ _ h => h) (Or.inl ⟨by rfl, ?_⟩) SW ?_
      · intro W _
        go_simp <;> first | done | rfl | (rw [IntKind.wrap_i64]; omega) | (intro hh; exfalso; omega)
      go_simp
      refine wpAnyH_take (i := 2) (v := .int .i64 k) rfl (by kernel_rfl) (by kernel_rfl) (by kernel_rfl) (fun _ _ _ h => h) (Or.inl ⟨by rfl, ?_⟩) SW ?_
      · intro W _
        go_simp <;> first | done | rfl | (rw [IntKind.wrap_i64]; omega) | (intro hh; exfalso; omega)
      go_simp
      refine wpAnyH_take (i := 3) (v := .bool false) rfl (by kernel_rfl) (by kernel_rfl) (by kernel_rfl) (fun _ _ _ h => h) (Or.inl ⟨by rfl, ?_⟩) SW ?_
      · intro W _
        go_simp <;> first | done | rfl | (rw [IntKind.wrap_i64]; omega) | (intro hh; exfalso; omega)
      go_simp
      refine wpAnyH_take (i := 4) (v := .bool false) rfl (by kernel_rfl) (by kernel_rfl) (by kernel_rfl) (fun _ _ _ h => h) (Or.inl ⟨by rfl, ?_⟩) SW ?_
      · intro W _
        go_simp <;> first | done | rfl | (rw [IntKind.wrap_i64]; omega) | (intro hh; exfalso; omega)
      go_simp
      refine wpAnyH_take (i := 5) (v := undef) rfl (by kernel_rfl) (by kernel_rfl) (by kernel_rfl) (fun _ _ _ h => h) (Or.inr ⟨by rfl, rfl⟩) SW ?_
      go_simp
      refine wpAnyH_take (i := 6) (v := undef) rfl (by kernel_rfl) (by kernel_rfl) (by kernel_rfl) (fun _ _ _ h => h) (Or.inr ⟨by rfl, rfl⟩) SW ?_
      go_simp
      refine wpAnyH_take (i := 7) (v := undef) rfl (by kernel_rfl) (by kernel_rfl) (by kernel_rfl) (fun _ _ _ h => h) (Or.inr ⟨by rfl, rfl⟩) SW ?_
      go_simp
      refine wpAnyH_take (i := 8) (v := undef) rfl (by kernel_rfl) (by kernel_rfl) (by kernel_rfl) (fun _ _ _ h => h) (Or.inr ⟨by rfl, rfl⟩) SW ?_
      go_simp
      refine wpAnyH_take (i := 9) (v := undef) rfl (by kernel_rfl) (by kernel_rfl) (by kernel_rfl) (fun _ _ _ h => h) (Or.inr ⟨by rfl, rfl⟩) SW ?_
      go_simp
      refine wpAnyH_take (i := 10) (v := undef) rfl (by kernel_rfl) (by kernel_rfl) (by kernel_rfl) (fun _ _ _ h => h) (Or.inr ⟨by rfl, rfl⟩) SW ?_
      go_simp
      refine wpAnyH_take (i := 11) (v := .bool false) rfl (by kernel_rfl) (by kernel_rfl) (by kernel_rfl) (fun _ _ _ h => h) (Or.inl ⟨by rfl, ?_⟩) SW ?_
      · intro W _
        go_simp <;> first | done | rfl | (rw [IntKind.wrap_i64]; omega) | (intro hh; exfalso; omega)
      go_simp
      refine wpAnyH_done (by kernel_rfl) ?_ _
      have HB6 := hide (hB.out.trans (SW.mono hB.out.size))
      clear SW
      go_wp2_with fail
      have SW : Below wr.drew.heap.size wr.drew wr.drew.drew := (Below.refl _ wr.drew).drew
      refine wp_region_held (S := fun W => Below wr.drew.heap.size wr.drew W) (by kernel_rfl) ?_
      change wpAnyH _ _ _ _ _ _ _ _ (World.drew _)
      refine wpAnyH_take (i := 0) (v := .int .i64 k) rfl (by kernel_rfl) (by kernel_rfl) (by kernel_rfl) (fun _ _ _ h => h) (Or.inl ⟨by rfl, ?_⟩) SW ?_
      · intro W _
        go_simp <;> first | done | rfl | (rw [IntKind.wrap_i64]; omega) | (intro hh; exfalso; omega)
      go_simp
      refine wpAnyH_take (i := 1) (v := .slice la k cap) rfl (by kernel_rfl) (by kernel_rfl) (by kernel_rfl) (fun _ _ _ h => h) (Or.inl ⟨by rfl, ?_⟩) SW ?_
      · intro W _
        go_simp <;> first | done | rfl | (rw [IntKind.wrap_i64]; omega) | (intro hh; exfalso; omega)
      go_simp
      refine wpAnyH_take (i := 2) (v := .int .i64 k) rfl (by kernel_rfl) (by kernel_rfl) (by kernel_rfl) (fun _ _ _ h => h) (Or.inl ⟨by rfl, ?_⟩) SW ?_
      · intro W _
        go_simp <;> first | done | rfl | (rw [IntKind.wrap_i64]; omega) | (intro hh; exfalso; omega)
      go_simp
      refine wpAnyH_take (i := 3) (v := .bool false) rfl (by kernel_rfl) (by kernel_rfl) (by kernel_rfl) (fun _ _ _ h => h) (Or.inl ⟨by rfl, ?_⟩) SW ?_
      · intro W _
        go_simp <;> first | done | rfl | (rw [IntKind.wrap_i64]; omega) | (intro hh; exfalso; omega)
      go_simp
      refine wpAnyH_take (i := 4) (v := .bool false) rfl (by kernel_rfl) (by kernel_rfl) (by kernel_rfl) (fun _ _ _ h => h) (Or.inl ⟨by rfl, ?_⟩) SW ?_
      · intro W _
        go_simp <;> first | done | rfl | (rw [IntKind.wrap_i64]; omega) | (intro hh; exfalso; omega)
      go_simp
      refine wpAnyH_take (i := 5) (v := undef) rfl (by kernel_rfl) (by kernel_rfl) (by kernel_rfl) (fun _ _ _ h => h) (Or.inr ⟨by rfl, rfl⟩) SW ?_
      go_simp
      refine wpAnyH_take (i := 6) (v := undef) rfl (by kernel_rfl) (by kernel_rfl) (by kernel_rfl) (fun _ _ _ h => h) (Or.inr ⟨by rfl, rfl⟩) SW ?_
      go_simp
      refine wpAnyH_take (i := 7) (v := undef) rfl (by kernel_rfl) (by kernel_rfl) (by kernel_rfl) (fun _ _ _ h => h) (Or.inr ⟨by rfl, rfl⟩) SW ?_
      go_simp
      refine wpAnyH_take (i := 8) (v := undef) rfl (by kernel_rfl) (by kernel_rfl) (by kernel_rfl) (fun _ _ _ h => h) (Or.inr ⟨by rfl, rfl⟩) SW ?_
      go_simp
      refine wpAnyH_take (i := 9) (v := undef) rfl (by kernel_rfl) (by kernel_rfl) (by kernel_rfl) (fun _ _ _ h => h) (Or.inr ⟨by rfl, rfl⟩) SW ?_
      go_simp
      refine wpAnyH_take (i := 10) (v := undef) rfl (by kernel_rfl) (by kernel_rfl) (by kernel_rfl) (fun _ _ _ h => h) (Or.inr ⟨by rfl, rfl⟩) SW ?_
      go_simp
      refine wpAnyH_take (i := 11) (v := .bool false) rfl (by kernel_rfl) (by kernel_rfl) (by kernel_rfl) (fun _ _ _ h => h) (Or.inl ⟨by rfl, ?_⟩) SW ?_
      · intro W _
        go_simp <;> first | done | rfl | (rw [IntKind.wrap_i64]; omega) | (intro hh; exfalso; omega)
      go_simp
      refine wpAnyH_done (by kernel_rfl) ?_ _
      have HB7 := hide (HB6.out.trans (SW.mono HB6.out.size))
      clear SW
      obtain ⟨w7, hw7⟩ : ∃ w7, wr.drew.drew = w7 := ⟨_, rfl⟩
      rw [hw7] at HB7 ⊢
      clear hw7 hB HB6
      have HBW := hide (HB1.out.trans (HB7.out.mono HB1.out.size))
      by_cases hne : L = []
      · subst hne
        obtain ⟨_, _, _, hnil⟩ := HLL.out
        have hvn := hnil rfl
        simp only [Value.slice.injEq] at hvn
        obtain ⟨rfl, rfl, rfl⟩ := hvn
        clear hnil
        have HG7 := hide (HG1.out.below HB7.out HG1.out.lt)
        have hR9 := (HRB.out.mono HBW.out).mono ((Below.refl _ w7).alloc (Nat.le_refl _) (.cells #[.slice (some ⟨g, 0, none⟩) 26 c, .int .i64 b.W, .int .i64 b.B, .int .i64 T] 24))
        have hB9 := Bs.nil w7.heap.size (w7.alloc (.cells #[.slice (some ⟨g, 0, none⟩) 26 c, .int .i64 b.W, .int .i64 b.B, .int .i64 T] 24)) T
        have hC9 : ∀ j u, (bv g c b T)[j]? = some u → (w7.alloc (.cells #[.slice (some ⟨g, 0, none⟩) 26 c, .int .i64 b.W, .int .i64 b.B, .int .i64 T] 24)).cell? ((⟨w7.heap.size, 0, none⟩ : Addr).add j) = some u := by
          intro j u hu
          rw [Addr.add_lit, Nat.zero_add]
          simp only [World.cell?, heap_alloc_new]
          match j, hu with
          | 0, hu => exact hu
          | 1, hu => exact hu
          | 2, hu => exact hu
          | 3, hu => exact hu
          | j + 4, hu => simp at hu
        have hV9 : Bv (w7.alloc (.cells #[.slice (some ⟨g, 0, none⟩) 26 c, .int .i64 b.W, .int .i64 b.B, .int .i64 T] 24)) T (bv g c b T) [b] := ⟨g, c, [], by simp, hR9, rfl⟩
        have hsz : w7.heap.size ≤ (w7.alloc (.cells #[.slice (some ⟨g, 0, none⟩) 26 c, .int .i64 b.W, .int .i64 b.B, .int .i64 T] 24)).heap.size := by simp
        have hb9 := HBW.out.alloc HBW.out.size (.cells #[.slice (some ⟨g, 0, none⟩) 26 c, .int .i64 b.W, .int .i64 b.B, .int .i64 T] 24)
        have hs17 := HBW.out.size
        obtain ⟨w9, hw9⟩ : ∃ w9, w7.alloc (.cells #[.slice (some ⟨g, 0, none⟩) 26 c, .int .i64 b.W, .int .i64 b.B, .int .i64 T] 24) = w9 := ⟨_, rfl⟩
        rw [hw9] at hB9 hC9 hV9 hsz hb9
        have G7 := HG7.out
        have hN7 := Bs.nil w7.heap.size w7 T
        go_wp2_with (first | refine wpList_load_gm rfl (.tmp 3) rfl w.heap.size rfl G7 ?_ | (at_builtin; refine wpList_append_bs_none w7 rfl _ _ rfl w7.heap.size T _ [] rfl hN7 rfl ?_) | (at_builtin; refine wpList_append_bs w9 rfl _ _ rfl w7.heap.size T _ [] rfl hB9 ⟨w7.heap.size, 0, none⟩ 1 1 (bv g c b T) [b] rfl rfl hC9 hV9 (by decide) hsz ?_))
        intro v10 w10 hB10 hg10 _
        have hB10 : Bs w7.heap.size w10 T v10 [b] := hB10
        obtain ⟨a10, c10, rfl, -, -, -⟩ := hB10.form
        have HB10 := hide (hb9.grown hg10 (by omega) (fun q h => by cases h))
        have HBS := hide hB10
        clear hg10 hb9 hB9 hC9 hV9 hw9 hN7 G7 hR9 hsz
        go_wp2_with (at_builtin; refine wpList_append_bs_none w10 rfl _ _ rfl w7.heap.size T _ [b] rfl hB10 rfl ?_)
        go_wp2_with fail
        go_ret
        refine ⟨_, rfl, ?_, HB10.out⟩
        rw [HRE.out]
        exact HBS.out.base (Nat.zero_le _)
      · obtain ⟨ga, hla⟩ := HGA.out hne
        subst hla
        have hk1 : 1 ≤ k := by
          have := List.length_pos_iff.2 hne
          have := HLN.out
          omega
        have hc0 : ¬ cap = 0 := by omega
        by_cases hck : cap = k
        · have hck2 : k = cap := hck.symm
          subst hck2
          have HL7 := hide (HLL.out.below HBW.out)
          have HG7 := hide (HG1.out.below HB7.out HG1.out.lt)
          have HR7 := hide (HRB.out.mono HBW.out)
          obtain ⟨us, hV, hC⟩ := HL7.out.upto (k := k) (by rw [HLN.out]; omega)
          have HTK : Hid ((L.take k).length = k) := hide (by rw [List.length_take, HLN.out]; omega)
          have htk := HTK.out
          have hs17 := HBW.out.size
          clear HLL HB1 HB7 HG1 HRB
          go_wp2_with (at_builtin; refine wpList_append_bs w7 rfl _ _ rfl w7.heap.size T _ [] rfl (Bs.nil _ _ _) ⟨ga, 0, none⟩ k k us (L.take k) rfl htk hC hV (by simp; omega) (Nat.le_refl _) ?_)
          intro v8 w8 hB8 hg8 _
          have hb8 : Below w7.heap.size w7 w8 := (Below.refl _ w7).grown hg8 (Nat.le_refl _) (fun q h => by cases h)
          have hB8 : Bs w7.heap.size w8 T v8 (L.take k) := hB8
          obtain ⟨a8, c8, rfl, -, -, -⟩ := hB8.form
          rw [htk] at hB8
          have G8 := HG7.out.below hb8 HG7.out.lt
          have hB9 := hB8.below ((Below.refl _ w8).alloc (Nat.le_refl _) (.cells #[.slice (some ⟨g, 0, none⟩) 26 c, .int .i64 b.W, .int .i64 b.B, .int .i64 T] 24))
          have hb9 := hb8.alloc hb8.size (.cells #[.slice (some ⟨g, 0, none⟩) 26 c, .int .i64 b.W, .int .i64 b.B, .int .i64 T] 24)
          have hR9 := (HR7.out.mono hb9)
          have hC9 : ∀ j u, (bv g c b T)[j]? = some u → (w8.alloc (.cells #[.slice (some ⟨g, 0, none⟩) 26 c, .int .i64 b.W, .int .i64 b.B, .int .i64 T] 24)).cell? ((⟨w8.heap.size, 0, none⟩ : Addr).add j) = some u := by
            intro j u hu
            rw [Addr.add_lit, Nat.zero_add]
            simp only [World.cell?, heap_alloc_new]
            match j, hu with
            | 0, hu => exact hu
            | 1, hu => exact hu
            | 2, hu => exact hu
            | 3, hu => exact hu
            | j + 4, hu => simp at hu
          have hV9 : Bv (w8.alloc (.cells #[.slice (some ⟨g, 0, none⟩) 26 c, .int .i64 b.W, .int .i64 b.B, .int .i64 T] 24)) T (bv g c b T) [b] := ⟨g, c, [], by simp, hR9, rfl⟩
          have hs8 := hb8.size
          have hsz : w7.heap.size ≤ (w8.alloc (.cells #[.slice (some ⟨g, 0, none⟩) 26 c, .int .i64 b.W, .int .i64 b.B, .int .i64 T] 24)).heap.size := by simp; omega
          obtain ⟨w9, hw9⟩ : ∃ w9, w8.alloc (.cells #[.slice (some ⟨g, 0, none⟩) 26 c, .int .i64 b.W, .int .i64 b.B, .int .i64 T] 24) = w9 := ⟨_, rfl⟩
          rw [hw9] at hB9 hb9 hC9 hV9 hsz
          have HB9 := hide hb9
          have hlk : (L.take k).length + 1 ≤ 100000000 := by omega
          clear hR9 hg8 hB8 hV hC
          go_wp2_with (first | refine wpList_load_gm rfl (.tmp 3) rfl w.heap.size rfl G8 ?_ | (at_builtin; refine wpList_append_bs w9 rfl _ _ rfl w7.heap.size T _ (L.take k) (by first | rfl | rw [htk]) hB9 ⟨w8.heap.size, 0, none⟩ 1 1 (bv g c b T) [b] rfl rfl hC9 hV9 hlk hsz ?_))
          intro v10 w10 hB10 hg10 hq10
          obtain ⟨a10, c10, rfl, -, -, -⟩ := hB10.form
          have hb10 := HB9.out.grown hg10 hsz hq10
          have hs10 := hb10.size
          have HB10 := hide hb10
          obtain ⟨us2, hV2, hC2⟩ := (HL7.out.below hb10).behind (k := k) (by rw [HLN.out]; omega)
          have hdl : (L.drop k).length = k - k := by rw [List.length_drop, HLN.out]
          have hl2 : (L.take k ++ [b]).length + (k - k) ≤ 100000000 := by rw [List.length_append, htk]; simp; omega
          clear G8 hB9 hb9 hC9 hV9 hw9 hg10 hq10 hb10 HB9 hsz hlk hs8 hb8 HG7 HR7 HL7
          go_wp2_with (at_builtin; refine wpList_append_bs w10 rfl _ _ rfl w7.heap.size T _ (L.take k ++ [b]) rfl hB10 ⟨ga, 0, none⟩ 0 0 [] [] rfl rfl (fun j u hu => by simp at hu) rfl (by rw [List.length_append, htk]; simp; omega) hs10 ?_)
          intro v11 w11 hB11 hg11 hq11
          have hb11 := HB10.out.grown hg11 hs10 hq11
          have HB11 := hide (HBW.out.trans (hb11.mono hs17))
          have HBS := hide hB11
          clear hB11 hg11 hq11 hb11 HB10 hV2 hC2 hB10
          go_wp2_with fail
          go_ret
          refine ⟨v11, rfl, ?_, HB11.out⟩
          rw [HRE.out, List.drop_of_length_le (by rw [HLN.out]; exact Nat.le_refl _), List.append_nil]
          exact HBS.out.base (Nat.zero_le _)
        · have HCK := hide hck
          have HL7 := hide (HLL.out.below HBW.out)
          have HG7 := hide (HG1.out.below HB7.out HG1.out.lt)
          have HR7 := hide (HRB.out.mono HBW.out)
          obtain ⟨us, hV, hC⟩ := HL7.out.upto (k := k) (by rw [HLN.out]; omega)
          have HTK : Hid ((L.take k).length = k) := hide (by rw [List.length_take, HLN.out]; omega)
          have htk := HTK.out
          have hs17 := HBW.out.size
          clear HLL HB1 HB7 HG1 HRB
          go_wp2_with (at_builtin; refine wpList_append_bs w7 rfl _ _ rfl w7.heap.size T _ [] rfl (Bs.nil _ _ _) ⟨ga, 0, none⟩ k cap us (L.take k) rfl htk hC hV (by simp; omega) (Nat.le_refl _) ?_)
          intro v8 w8 hB8 hg8 _
          have hb8 : Below w7.heap.size w7 w8 := (Below.refl _ w7).grown hg8 (Nat.le_refl _) (fun q h => by cases h)
          have hB8 : Bs w7.heap.size w8 T v8 (L.take k) := hB8
          obtain ⟨a8, c8, rfl, -, -, -⟩ := hB8.form
          rw [htk] at hB8
          have G8 := HG7.out.below hb8 HG7.out.lt
          have hB9 := hB8.below ((Below.refl _ w8).alloc (Nat.le_refl _) (.cells #[.slice (some ⟨g, 0, none⟩) 26 c, .int .i64 b.W, .int .i64 b.B, .int .i64 T] 24))
          have hb9 := hb8.alloc hb8.size (.cells #[.slice (some ⟨g, 0, none⟩) 26 c, .int .i64 b.W, .int .i64 b.B, .int .i64 T] 24)
          have hR9 := (HR7.out.mono hb9)
          have hC9 : ∀ j u, (bv g c b T)[j]? = some u → (w8.alloc (.cells #[.slice (some ⟨g, 0, none⟩) 26 c, .int .i64 b.W, .int .i64 b.B, .int .i64 T] 24)).cell? ((⟨w8.heap.size, 0, none⟩ : Addr).add j) = some u := by
            intro j u hu
            rw [Addr.add_lit, Nat.zero_add]
            simp only [World.cell?, heap_alloc_new]
            match j, hu with
            | 0, hu => exact hu
            | 1, hu => exact hu
            | 2, hu => exact hu
            | 3, hu => exact hu
            | j + 4, hu => simp at hu
          have hV9 : Bv (w8.alloc (.cells #[.slice (some ⟨g, 0, none⟩) 26 c, .int .i64 b.W, .int .i64 b.B, .int .i64 T] 24)) T (bv g c b T) [b] := ⟨g, c, [], by simp, hR9, rfl⟩
          have hs8 := hb8.size
          have hsz : w7.heap.size ≤ (w8.alloc (.cells #[.slice (some ⟨g, 0, none⟩) 26 c, .int .i64 b.W, .int .i64 b.B, .int .i64 T] 24)).heap.size := by simp; omega
          obtain ⟨w9, hw9⟩ : ∃ w9, w8.alloc (.cells #[.slice (some ⟨g, 0, none⟩) 26 c, .int .i64 b.W, .int .i64 b.B, .int .i64 T] 24) = w9 := ⟨_, rfl⟩
          rw [hw9] at hB9 hb9 hC9 hV9 hsz
          have HB9 := hide hb9
          have hlk : (L.take k).length + 1 ≤ 100000000 := by omega
          clear hR9 hg8 hB8 hV hC
          go_wp2_with (first | refine wpList_load_gm rfl (.tmp 3) rfl w.heap.size rfl G8 ?_ | (at_builtin; refine wpList_append_bs w9 rfl _ _ rfl w7.heap.size T _ (L.take k) (by first | rfl | rw [htk]) hB9 ⟨w8.heap.size, 0, none⟩ 1 1 (bv g c b T) [b] rfl rfl hC9 hV9 hlk hsz ?_))
          intro v10 w10 hB10 hg10 hq10
          obtain ⟨a10, c10, rfl, -, -, -⟩ := hB10.form
          have hb10 := HB9.out.grown hg10 hsz hq10
          have hs10 := hb10.size
          have HB10 := hide hb10
          obtain ⟨us2, hV2, hC2⟩ := (HL7.out.below hb10).behind (k := k) (by rw [HLN.out]; omega)
          have hdl : (L.drop k).length = k - k := by rw [List.length_drop, HLN.out]
          have hl2 : (L.take k ++ [b]).length + (k - k) ≤ 100000000 := by rw [List.length_append, htk]; simp; omega
          clear G8 hB9 hb9 hC9 hV9 hw9 hg10 hq10 hb10 HB9 hsz hlk hs8 hb8 HG7 HR7 HL7
          go_wp2_with (at_builtin; refine wpList_append_bs w10 rfl _ _ rfl w7.heap.size T _ (L.take k ++ [b]) rfl hB10 ⟨ga, k * 4, none⟩ 0 (cap - k) [] [] (by first | rfl | (simp [Act.eval]; done) | simp) rfl (fun j u hu => by simp at hu) rfl (by rw [List.length_append, htk]; simp; omega) hs10 ?_)
          intro v11 w11 hB11 hg11 hq11
          have hb11 := HB10.out.grown hg11 hs10 hq11
          have HB11 := hide (HBW.out.trans (hb11.mono hs17))
          have HBS := hide hB11
          clear hB11 hg11 hq11 hb11 HB10 hV2 hC2 hB10
          go_wp2_with fail
          go_ret
          refine ⟨v11, rfl, ?_, HB11.out⟩
          rw [HRE.out, List.drop_of_length_le (by rw [HLN.out]; exact Nat.le_refl _), List.append_nil]
          exact HBS.out.base (Nat.zero_le _)

end Go.Proofs.Ytmboikpcbkiepaa
