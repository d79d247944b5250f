/-
  Chess as texts: the places of a position read. No conditions beyond those that each theorem bears.
  Chess as texts: which castles may still be, as letters. No conditions beyond those that each theorem bears.
-/
import Derived.Test.YtdmlamnonbmboaaGreatDoorV48
import Derived.Test.YtdmlamnonbmboaaGreatDoorV33
import Derived.Test.YtdmlamnonbmboaaGreatDoorV34
import Derived.Test.YtdmlamnonbmboaaGreatDoorV45
import Derived.Laws.CopyRow
import Derived.Laws.OwnMore
import Derived.Laws.MakeOwn
namespace Go.Proofs.YtdmlamnonbmboaaGreatDoor
open Go.RowKit Go.Shelf
open Go.Lib

/-- The places that ranks tell, the first rank's first. -/
def rwZ (L : List ByteArray) : List (List Int) := L.map fun x => (rkR (runesOf x) 0 z8).1
def plZ (L : List ByteArray) (i : Nat) : List Int := List.replicate ((8 - i) * 8) 0 ++ ((rwZ L).take i).reverse.flatten
theorem rwZ_len (L : List ByteArray) : ∀ r ∈ rwZ L, r.length = 8 := by
  intro r hr
  unfold rwZ at hr
  obtain ⟨x, _, rfl⟩ := List.mem_map.1 hr
  rw [rkR_len]
  rfl
theorem flat8_len : ∀ (M : List (List Int)), (∀ r ∈ M, r.length = 8) → M.flatten.length = M.length * 8
  | [], _ => rfl
  | r :: M, h => by
    rw [List.flatten_cons, List.length_append, h r (by simp), flat8_len M (fun x hx => h x (List.mem_cons_of_mem _ hx)), List.length_cons]
    omega
theorem plZ_tail_len (L : List ByteArray) (i : Nat) (hi : i ≤ L.length) : (((rwZ L).take i).reverse.flatten).length = i * 8 := by
  rw [flat8_len _ (fun r hr => rwZ_len L r (List.mem_of_mem_take (List.mem_reverse.1 hr)))]
  simp [rwZ, hi]
theorem plZ_len (L : List ByteArray) (hL : L.length = 8) (i : Nat) (hi : i ≤ 8) : (plZ L i).length = 64 := by
  unfold plZ
  rw [List.length_append, List.length_replicate, plZ_tail_len L i (by omega)]
  omega
theorem plZ_succ (L : List ByteArray) (i : Nat) (hi : i < 8) (row : List Int) (hr : (rwZ L)[i]? = some row) :
    (ivs (plZ L i)).take ((7 - i) * 8) ++ ivs row ++ (ivs (plZ L i)).drop ((7 - i) * 8 + 8) = ivs (plZ L (i + 1)) := by
  have h1 : (rwZ L).take (i + 1) = (rwZ L).take i ++ [row] := by rw [List.take_add_one, hr]; rfl
  unfold plZ ivs
  rw [h1, List.reverse_append, ← List.map_take, ← List.map_drop, ← List.map_append, ← List.map_append]
  congr 1
  rw [List.take_append_of_le_length (by rw [List.length_replicate]; omega), List.take_replicate, List.drop_append]
  have e1 : min ((7 - i) * 8) ((8 - i) * 8) = (8 - (i + 1)) * 8 := by omega
  have e2 : (7 - i) * 8 + 8 - (8 - i) * 8 = 0 := by omega
  rw [e1, List.length_replicate, e2, List.drop_zero, List.drop_of_length_le (by rw [List.length_replicate]; omega), List.nil_append, List.append_assoc]
  simp

theorem cellsOf_at (L : List ByteArray) (n j : Nat) (x : ByteArray) (h : L[j]? = some x) : (cellsOf L n).toList[j]? = some (.string x) := by
  have hj : j < L.length := (List.getElem?_eq_some_iff.1 h).1
  have he := (List.getElem?_eq_some_iff.1 h).2
  unfold cellsOf
  rw [List.getElem?_append_left (by rw [List.length_map]; exact hj), List.getElem?_map, h]
  rfl

theorem plZ_zero (L : List ByteArray) : (ivs (plZ L 0)).toArray = madeCells #[.int .i64 0] 64 := by
  apply Array.toList_inj.1
  rw [toList_madeCells_one]
  unfold plZ ivs
  simp
theorem rwZ_at {L : List ByteArray} {i : Nat} {x : ByteArray} {row : List Int} (h : L[i]? = some x) (hr : (rkR (runesOf x) 0 z8).1 = row) : (rwZ L)[i]? = some row := by
  unfold rwZ
  rw [List.getElem?_map, h, ← hr]
  rfl
theorem rd_of_vb {w : World} {b : Nat} {Z : List Int} (h : Vb w b 3 (ivs Z)) (hl : Z.length = 64) : Rd w (some ⟨b, 0, none⟩) 64 64 Z :=
  Rd.of_blk (show Blk w b 3 Z from h) hl (by decide)
theorem info3 : (Tryz.prog.info? 3).map (fun i => (i.zero, i.size, i.bytes)) = some (some (.int .i64 0), 1, 8) := by kernel_rfl
theorem run_make64 (w : World) : (Instr.makeSlice 22 (.int .i64 64) (.int .i64 64)).run Tryz.prog w = .ok (.slice (some ⟨w.heap.size, 0, none⟩) 64 64) (w.alloc (.cells (madeCells #[.int .i64 0] 64) 3)) := by
  obtain ⟨i0, hi, hz0, hz1, hz2⟩ := info_parts info3
  have h := run_make (P := Tryz.prog) w 22 3 i0 _ Tryz.underlying22 hi hz0 .i64 .i64 64 64 (by decide) (by decide) (by rw [hz2]; decide) (by decide)
  rw [hz1] at h
  exact h

attribute [local irreducible] rkR runesOf plZ rwZ
attribute [local go_sem] Oper.semAt_some wide_fn wide_fn0 wide_depth

set_option maxRecDepth 1000000 in
set_option maxHeartbeats 4000000 in
theorem readPlaces_ok (s : ByteArray) (hs : s.size < 4294967281) (h9 : 8 ≤ s.size) (L : List ByteArray) (hL : splitB ⟨#[47]⟩ 0 8 s = L) (hl8 : L.length = 8)
    (hok : ∀ x ∈ L, (∀ y ∈ runesOf x, ∃ n : Nat, y = (n : Int) ∧ n < 128) ∧ (rkR (runesOf x) 0 z8).2 = true) (w : World) (mx : Int) (hm : w.cell? ⟨3, 0, none⟩ = some (.int .i64 mx)) :
    Calls Tryz.prog 33 #[.string s] w fun e w' => ∃ b, e = .returned (.tuple #[.slice (some ⟨b, 0, none⟩) 64 64, .bool true]) ∧ Rd w' (some ⟨b, 0, none⟩) 64 64 (plZ L 8) ∧ Below w.heap.size w w' := by
  have hsp := Tryz.strings_SplitN s ⟨#[47]⟩ 9 mx w hs hm (by decide) (by decide) (by decide)
  have hmin : min 9 (s.size + 1) = 9 := by omega
  rw [hmin, show (9 : Nat) - 1 = 8 from rfl, hL, hl8] at hsp
  have HSP := hide hsp
  obtain ⟨g, hg⟩ : ∃ g, w.heap.size = g := ⟨_, rfl⟩
  have HG := hide hg
  go_enter Tryz.func33, Tryz.ntmps33
  go_wp2_with fail
  refine HSP.out.mono ?_
  rintro e w1 ⟨rfl, hw1⟩
  have HB1 : Hid (Below w.heap.size w w1) := hide (by rw [hw1]; exact (Below.refl _ _).alloc (Nat.le_refl _) _)
  have HS1 : Hid (w1.heap.size = g + 1) := hide (by rw [hw1, ← hg]; simp)
  have HCL : Hid (∀ j x, L[j]? = some x → w1.cell? ⟨g, j, none⟩ = some (.string x)) := hide (fun j x hj => by
    have hc := cellsOf_at L 9 j x hj
    have h := Vb.new w 9 (cellsOf L 9).toList
    rw [hg] at h
    rw [hw1]
    have h2 : Vb (w.alloc (.cells (cellsOf L 9) 9)) g 9 (cellsOf L 9).toList := by simpa using h
    exact h2.cell hc)
  try rw [hg]
  clear hsp hw1 hg
  have hmk := run_make64 w1
  rw [HS1.out] at hmk
  obtain ⟨w2, hw2⟩ : ∃ w2, w1.alloc (.cells (ivs (plZ L 0)).toArray 3) = w2 := ⟨_, rfl⟩
  have V2 : Vb w2 (g + 1) 3 (ivs (plZ L 0)) := by
    rw [← hw2, ← HS1.out]
    exact Vb.new w1 3 _
  have B12 : Below w1.heap.size w1 w2 := by rw [← hw2]; exact (Below.refl _ _).alloc (Nat.le_refl _) _
  rw [← plZ_zero L, hw2] at hmk
  have HV2 := hide V2
  have HB2 : Hid (Below w.heap.size w w2) := hide (HB1.out.trans (B12.mono HB1.out.size))
  have HC2 : Hid (∀ W, Below (g + 1) w2 W → ∀ j x, L[j]? = some x → W.cell? ⟨g, j, none⟩ = some (.string x)) := hide (fun W hW j x hj => (hW.cell (p := ⟨g, j, none⟩) (by show g < _; omega)).trans ((B12.cell (p := ⟨g, j, none⟩) (by show g < _; rw [HS1.out]; omega)).trans (HCL.out j x hj)))
  have HOK := hide hok
  have HL8 := hide hl8
  have HS2 : Hid (w2.heap.size = g + 2) := hide (by rw [← hw2, World.size_alloc, HS1.out])
  clear hw2 V2 B12
  go_wp2_with fail
  clear hmk
  go_loopw [18] (fun v wr => ∃ i : Nat, v = .int .i64 i ∧ i ≤ 8 ∧ Hid (Vb wr (g + 1) 3 (ivs (plZ L i))) ∧ Hid (Below (g + 1) w2 wr)) (fun v _ => 8 - (RowKit.intOf v).toNat)
  case atStart => exact ⟨0, rfl, by omega, HV2, hide (Below.refl _ _)⟩
  case round =>
    obtain ⟨i, rfl, hi, hV, hb⟩ := hrel
    by_cases hlt : i < 8
    · have hlt' : (i : Int) < 8 := by omega
      obtain ⟨x, hx⟩ : ∃ x, L[i]? = some x := ⟨L[i]'(by rw [HL8.out]; exact hlt), List.getElem?_eq_getElem _⟩
      have cx := HC2.out wr hb.out i x hx
      obtain ⟨ha, hk⟩ := HOK.out x (List.mem_of_getElem? hx)
      have HRK := readRank_any x ha wr
      rw [hk] at HRK
      obtain ⟨row, hrow⟩ : ∃ row, (rkR (runesOf x) 0 z8).1 = row := ⟨_, rfl⟩
      have hrz : (rwZ L)[i]? = some row := rwZ_at hx hrow
      have hrl : row.length = 8 := rwZ_len L row (List.mem_of_getElem? hrz)
      have HPS := hide (plZ_succ L i hlt row hrz)
      rw [hrow] at HRK
      have HRK := hide HRK
      clear hrow hrz ha hk hx
      go_wp2_with (refine HRK.out.mono ?_)
      rintro e w3 ⟨rfl, hb3⟩
      have HB3 : Hid (Below (g + 1) w2 w3) := hide (hb.out.trans (hb3.mono (Nat.le_of_lt hV.out.lt)))
      have HV3 := hide (hV.out.mono hb3)
      clear hb3 hV hb cx
      obtain ⟨d, hd⟩ : ∃ d, w3.heap.size = d := ⟨_, rfl⟩
      obtain ⟨w4, hw4⟩ : ∃ w4, w3.alloc (.cells #[.int .i64 0, .int .i64 0, .int .i64 0, .int .i64 0, .int .i64 0, .int .i64 0, .int .i64 0, .int .i64 0] 95) = w4 := ⟨_, rfl⟩
      have VD : Vb w4 d 95 (ivs z8) := by rw [← hw4, ← hd]; exact Vb.new w3 95 (ivs z8)
      have b34 : Below w3.heap.size w3 w4 := by rw [← hw4]; exact (Below.refl _ _).alloc (Nat.le_refl _) _
      have HD : Hid (g + 2 ≤ d) := hide (by rw [← hd]; have := HB3.out.size; have := HS2.out; omega)
      have hl : RowT 95 (ivs row).length := by rw [ivs_length, hrl]; exact row95
      go_upto_region 11 with (refine wpList_store_vb rfl 95 (.tmp 8) (.tmp 26) rfl d (ivs row) _ (by simp [Act.eval]) rfl VD (by rw [ivs_length, ivs_length, hrl]; rfl) hl (by simpa using ivs_one _) ?_; intro w5 V5 K5)
      have b35 : Below w3.heap.size w3 w5 := b34.trans (K5.below b34.size (fun j hj e => by omega))
      have HB5 : Hid (Below (g + 1) w2 w5) := hide (HB3.out.trans (b35.mono (Nat.le_of_lt HV3.out.lt)))
      have HV5 := hide (HV3.out.mono b35)
      have HR5 := hide V5
      try rw [hd]
      clear VD b34 hw4 V5 K5 b35 HV3 hd
      refine wp_region_held (S := fun W5 => Keeps (fun j => j = g + 1) w5 W5) (by kernel_rfl) ?_
      change wpAnyH _ _ _ _ _ _ _ _ (World.drew _)
      have SW : Keeps (fun j => j = g + 1) w5 w5.drew := (Keeps.refl _ w5).drew
      have DS : Hid (∀ W, Keeps (fun j => j = g + 1) w5 W → Vb W d 95 (ivs row)) := hide (fun W hk => HR5.out.keeps hk (fun e => by have := HD.out; omega))
      have HVd : Hid (Vb w5.drew (g + 1) 3 (ivs (plZ L i))) := hide (HV5.out.mono (drewN_below _ _ 1))
      generalize hwd : w5.drew = wd at SW HVd ⊢
      clear hwd
      refine wpAnyH_take (i := 0) (v := .slice (some ⟨g + 1, 0, none⟩) 64 64) rfl (by kernel_rfl) (by kernel_rfl) (by kernel_rfl) (fun _ _ _ h => h) (Or.inl ⟨by rfl, ?_⟩) SW ?_
      · intro W5 hW5
        go_simp <;> first | done | rfl | (rw [IntKind.wrap_i64]; omega) | omega
      go_simp
      refine wpAnyH_take (i := 1) (v := .int .i64 (i : Nat)) rfl (by kernel_rfl) (by kernel_rfl) (by kernel_rfl) (fun _ _ _ h => h) (Or.inl ⟨by rfl, ?_⟩) SW ?_
      · intro W5 hW5
        go_simp <;> first | done | rfl | (rw [IntKind.wrap_i64]; omega) | omega
      go_simp
      refine wpAnyH_take (i := 2) (v := .int .i64 ((7 - i : Nat) : Int)) rfl (by kernel_rfl) (by kernel_rfl) (by kernel_rfl) (fun _ _ _ h => h) (Or.inl ⟨by rfl, ?_⟩) SW ?_
      · intro W5 hW5
        go_simp <;> first | done | rfl | (rw [IntKind.wrap_i64]; omega) | omega
      go_simp
      refine wpAnyH_take (i := 3) (v := .int .i64 (((7 - i) * 8 : Nat) : Int)) rfl (by kernel_rfl) (by kernel_rfl) (by kernel_rfl) (fun _ _ _ h => h) (Or.inl ⟨by rfl, ?_⟩) SW ?_
      · intro W5 hW5
        go_simp <;> first | done | rfl | (rw [IntKind.wrap_i64]; omega) | omega
      go_simp
      refine wpAnyH_take (i := 4) (v := .slice (some ⟨g + 1, (7 - i) * 8, none⟩) (64 - (7 - i) * 8) (64 - (7 - i) * 8)) rfl (by kernel_rfl) (by kernel_rfl) (by kernel_rfl) (fun _ _ _ h => h) (Or.inl ⟨by rfl, ?_⟩) SW ?_
      · intro W5 hW5
        go_simp
        have e1 : (((7 - i : Nat) : Int) * 8).toNat = (7 - i) * 8 := by omega
        rw [if_pos ⟨by omega, by omega⟩, e1, if_neg (by omega)]
      go_simp
      refine wpAnyH_take (i := 5) (v := .slice (some ⟨d, 0, none⟩) 8 8) rfl (by kernel_rfl) (by kernel_rfl) (by kernel_rfl) (fun _ _ _ h => h) (Or.inl ⟨by rfl, ?_⟩) SW ?_
      · intro W5 hW5
        go_simp <;> first | done | rfl | (rw [IntKind.wrap_i64]; omega) | omega
      go_simp
      refine wpAnyH_ready (rs := [6]) (by kernel_rfl) (by simp) ?_
      refine AllReadyH.cons rfl (fun K1 hK1 => ?_) AllReadyH.nil
      have hpl := plZ_len L HL8.out i hi
      have hvr := DS.out wd SW
      have hrun := run_copy_row (P := Tryz.prog) wd 22 22 3 3 (g + 1) ((7 - i) * 8) (64 - (7 - i) * 8) (64 - (7 - i) * 8) ⟨d, 0, none⟩ 8 8 (ivs (plZ L i)).toArray 3 (ivs row) Tryz.underlying22 (by kernel_rfl) HVd.out (by rw [ivs_length, hrl]; show 8 = min 8 _; omega) (by intro j v hj; rw [Addr.add_lit, Nat.zero_add]; exact hvr.cell hj) (by rw [ivs_length, hrl, List.size_toArray, ivs_length, hpl]; omega) (by intro v hv; unfold ivs at hv; obtain ⟨q, _, rfl⟩ := List.mem_map.1 hv; rfl)
      refine wp_copy_run (.tmp 34) (.tmp 35) 22 22 (by rfl) (by rfl) (by rfl) hrun ?_
      have hlist : ((ivs (plZ L i)).toArray.toList.take ((7 - i) * 8) ++ ivs row ++ (ivs (plZ L i)).toArray.toList.drop ((7 - i) * 8 + (ivs row).length)) = ivs (plZ L (i + 1)) := by
        rw [ivs_length, hrl]
        exact HPS.out
      rw [hlist]
      have VE : Vb (wd.setRow (g + 1) (ivs (plZ L (i + 1))).toArray) (g + 1) 3 (ivs (plZ L (i + 1))) := HVd.out.setRow _
      have KE : Keeps (fun j => j = g + 1) wd (wd.setRow (g + 1) (ivs (plZ L (i + 1))).toArray) := Keeps.setRow wd (g + 1) _
      generalize wd.setRow (g + 1) (ivs (plZ L (i + 1))).toArray = we at *
      refine hK1.out _ _ (SW.trans KE) (fun SW => ?_)
      clear hK1 K1 KE hrun hlist hvr
      go_simp
      refine wpAnyH_done (by kernel_rfl) ?_ _
      have HBe : Hid (Below (g + 1) w2 we) := hide (HB5.out.trans (SW.below (by have := HB5.out.size; have := HS2.out; omega) (fun j hj e => by omega)))
      have HVe := hide VE
      clear SW VE
      go_wp2_with fail
      exact ⟨⟨i + 1, by go_num, by omega, HVe, HBe⟩, by simp [RowKit.intOf]; omega⟩
    · obtain rfl : i = 8 := by omega
      go_wp2_with fail
      try simp only [Exit.inBlock, Exit.then]
      refine bodyPost_ret (results_tmp2 rfl _ _ _) rfl ?_
      have hz := hV.out
      refine ⟨g + 1, rfl, rd_of_vb hz (plZ_len L HL8.out 8 (Nat.le_refl 8)), HB2.out.trans (hb.out.mono (by have := HG.out; omega))⟩

end Go.Proofs.YtdmlamnonbmboaaGreatDoor

namespace Go.Proofs.YtdmlamnonbmboaaGreatDoor
open Go.RowKit

def ctl : Nat → UInt8
  | 0 => 75
  | 1 => 81
  | 2 => 107
  | _ => 113
def ctL (r : Nat) : Nat → List UInt8
  | 0 => []
  | i + 1 => ctL r i ++ (if r.testBit i then [ctl i] else [])
def ctT (r : Nat) : ByteArray := if ctL r 4 = [] then ⟨#[45]⟩ else ⟨(ctL r 4).toArray⟩
theorem ctL_len (r : Nat) : ∀ i, (ctL r i).length ≤ i
  | 0 => Nat.le_refl _
  | i + 1 => by
    have h := ctL_len r i
    unfold ctL
    rw [List.length_append]
    split <;> simp <;> omega

theorem bld_new (w : World) : Lib.IsBuilder 128 5 w.heap.size w.heap.size (Lib.byteCells []) (w.alloc (.cells #[.pointer none, .slice none 0 0] 128)) :=
  Or.inl ⟨Nat.le_refl _, .slice none 0 0, heap_alloc_new w _, ⟨rfl, Or.inl ⟨rfl, rfl⟩⟩, by simp [Value.ownBlock]⟩
theorem ct_bits : (List.range 16).all (fun r => (List.range 4).all fun i => (decide (bits .and .i64 (r : Int) ((2 ^ i : Nat) : Int) = 0)) == !r.testBit i) = true := by kernel_rfl
theorem ct_bit (r i : Nat) (hr : r < 16) (hi : i < 4) (n : Int) (hn : ((2 ^ i : Nat) : Int) = n) : bits .and .i64 (r : Int) n = 0 ↔ r.testBit i = false := by
  have h := List.all_eq_true.1 (List.all_eq_true.1 ct_bits r (List.mem_range.2 hr)) i (List.mem_range.2 hi)
  rw [← hn]
  rw [beq_iff_eq] at h
  rw [← decide_eq_true_iff (p := bits .and .i64 (r : Int) ((2 ^ i : Nat) : Int) = 0), h]
  simp
theorem ctL_on (r i : Nat) (h : r.testBit i = true) : Lib.byteCells (ctL r (i + 1)) = Lib.byteCells (ctL r i) ++ [.int .u8 ((ctl i).toNat : Int)] := by
  conv => lhs; unfold ctL
  rw [if_pos h]
  simp [Lib.byteCells]
theorem ctL_off (r i : Nat) (h : r.testBit i = false) : ctL r (i + 1) = ctL r i := by
  conv => lhs; unfold ctL
  rw [if_neg (by rw [h]; decide), List.append_nil]

set_option maxRecDepth 1000000 in
set_option maxHeartbeats 4000000 in
theorem castleText_any (r : Nat) (hr : r < 16) (w : World) :
    Calls Tryz.prog 70 #[.int .i64 r] w fun e w' => e = .returned (.string (ctT r)) ∧ Below w.heap.size w w' := by
  have HN := hide (bld_new w)
  have HB0 : Hid (Below w.heap.size w (w.alloc (.cells #[.pointer none, .slice none 0 0] 128))) := hide ((Below.refl _ _).alloc (Nat.le_refl _) _)
  go_enter Tryz.func70, Tryz.ntmps70
  go_wp2_with fail
  generalize hw1 : w.alloc (.cells #[.pointer none, .slice none 0 0] 128) = w1 at *
  obtain ⟨g, hg⟩ : ∃ g, w.heap.size = g := ⟨_, rfl⟩
  have HG := hide hg
  rw [hg] at HN
  try rw [hg]
  clear hw1 hg
  go_loopw [5] (fun v wr => ∃ i : Nat, v = .int .i64 i ∧ i ≤ 4 ∧ Hid (Lib.IsBuilder 128 5 g g (Lib.byteCells (ctL r i)) wr) ∧ Hid (Below w.heap.size w wr)) (fun v _ => 4 - (RowKit.intOf v).toNat)
  case atStart => exact ⟨0, rfl, by omega, HN, HB0⟩
  case round =>
    obtain ⟨i, rfl, hi, hV, hb⟩ := hrel
    by_cases hlt : i < 4
    · have hlt' : (i : Int) < 4 := by omega
      obtain rfl | rfl | rfl | rfl : i = 0 ∨ i = 1 ∨ i = 2 ∨ i = 3 := by omega
      · have hbit := ct_bit r 0 hr (by omega) 1 rfl
        have hsz : g ≤ wr.heap.size := by rw [← HG.out]; exact hb.out.size
        have hlen := ctL_len r 0
        by_cases hx : bits .and .i64 (r : Int) 1 = 0
        · have HV2 : Hid (Lib.IsBuilder 128 5 g g (Lib.byteCells (ctL r 1)) wr) := hide (by rw [ctL_off r 0 (hbit.1 hx)]; exact hV.out)
          go_wp2_with fail
          exact ⟨⟨1, rfl, by omega, HV2, hb⟩, by simp [RowKit.intOf]⟩
        · have ht : r.testBit 0 = true := by
            cases h : r.testBit 0 with
            | true => rfl
            | false => exact absurd (hbit.2 h) hx
          have HW := hide (byte_any g g (Lib.byteCells (ctL r 0)) ((ctl 0).toNat : Int) wr hV.out (by rw [Lib.byteCells_length]; omega) hsz)
          rw [← ctL_on r 0 ht] at HW
          go_wp2_with fail
          refine HW.out.mono ?_
          rintro e w3 ⟨rfl, hB3, hb3⟩
          have HV2 : Hid (Lib.IsBuilder 128 5 g g (Lib.byteCells (ctL r 1)) w3) := hide (Or.inr hB3)
          have HB2 : Hid (Below w.heap.size w w3) := hide (hb.out.trans (hb3.mono (by rw [HG.out]; exact Nat.le_refl _)))
          clear hB3 hb3
          go_wp2_with fail
          exact ⟨⟨1, rfl, by omega, HV2, HB2⟩, by simp [RowKit.intOf]⟩
      · have hbit := ct_bit r 1 hr (by omega) 2 rfl
        have hsz : g ≤ wr.heap.size := by rw [← HG.out]; exact hb.out.size
        have hlen := ctL_len r 1
        by_cases hx : bits .and .i64 (r : Int) 2 = 0
        · have HV2 : Hid (Lib.IsBuilder 128 5 g g (Lib.byteCells (ctL r 2)) wr) := hide (by rw [ctL_off r 1 (hbit.1 hx)]; exact hV.out)
          go_wp2_with fail
          exact ⟨⟨2, rfl, by omega, HV2, hb⟩, by simp [RowKit.intOf]⟩
        · have ht : r.testBit 1 = true := by
            cases h : r.testBit 1 with
            | true => rfl
            | false => exact absurd (hbit.2 h) hx
          have HW := hide (byte_any g g (Lib.byteCells (ctL r 1)) ((ctl 1).toNat : Int) wr hV.out (by rw [Lib.byteCells_length]; omega) hsz)
          rw [← ctL_on r 1 ht] at HW
          go_wp2_with fail
          refine HW.out.mono ?_
          rintro e w3 ⟨rfl, hB3, hb3⟩
          have HV2 : Hid (Lib.IsBuilder 128 5 g g (Lib.byteCells (ctL r 2)) w3) := hide (Or.inr hB3)
          have HB2 : Hid (Below w.heap.size w w3) := hide (hb.out.trans (hb3.mono (by rw [HG.out]; exact Nat.le_refl _)))
          clear hB3 hb3
          go_wp2_with fail
          exact ⟨⟨2, rfl, by omega, HV2, HB2⟩, by simp [RowKit.intOf]⟩
      · have hbit := ct_bit r 2 hr (by omega) 4 rfl
        have hsz : g ≤ wr.heap.size := by rw [← HG.out]; exact hb.out.size
        have hlen := ctL_len r 2
        by_cases hx : bits .and .i64 (r : Int) 4 = 0
        · have HV2 : Hid (Lib.IsBuilder 128 5 g g (Lib.byteCells (ctL r 3)) wr) := hide (by rw [ctL_off r 2 (hbit.1 hx)]; exact hV.out)
          go_wp2_with fail
          exact ⟨⟨3, rfl, by omega, HV2, hb⟩, by simp [RowKit.intOf]⟩
        · have ht : r.testBit 2 = true := by
            cases h : r.testBit 2 with
            | true => rfl
            | false => exact absurd (hbit.2 h) hx
          have HW := hide (byte_any g g (Lib.byteCells (ctL r 2)) ((ctl 2).toNat : Int) wr hV.out (by rw [Lib.byteCells_length]; omega) hsz)
          rw [← ctL_on r 2 ht] at HW
          go_wp2_with fail
          refine HW.out.mono ?_
          rintro e w3 ⟨rfl, hB3, hb3⟩
          have HV2 : Hid (Lib.IsBuilder 128 5 g g (Lib.byteCells (ctL r 3)) w3) := hide (Or.inr hB3)
          have HB2 : Hid (Below w.heap.size w w3) := hide (hb.out.trans (hb3.mono (by rw [HG.out]; exact Nat.le_refl _)))
          clear hB3 hb3
          go_wp2_with fail
          exact ⟨⟨3, rfl, by omega, HV2, HB2⟩, by simp [RowKit.intOf]⟩
      · have hbit := ct_bit r 3 hr (by omega) 8 rfl
        have hsz : g ≤ wr.heap.size := by rw [← HG.out]; exact hb.out.size
        have hlen := ctL_len r 3
        by_cases hx : bits .and .i64 (r : Int) 8 = 0
        · have HV2 : Hid (Lib.IsBuilder 128 5 g g (Lib.byteCells (ctL r 4)) wr) := hide (by rw [ctL_off r 3 (hbit.1 hx)]; exact hV.out)
          go_wp2_with fail
          exact ⟨⟨4, rfl, by omega, HV2, hb⟩, by simp [RowKit.intOf]⟩
        · have ht : r.testBit 3 = true := by
            cases h : r.testBit 3 with
            | true => rfl
            | false => exact absurd (hbit.2 h) hx
          have HW := hide (byte_any g g (Lib.byteCells (ctL r 3)) ((ctl 3).toNat : Int) wr hV.out (by rw [Lib.byteCells_length]; omega) hsz)
          rw [← ctL_on r 3 ht] at HW
          go_wp2_with fail
          refine HW.out.mono ?_
          rintro e w3 ⟨rfl, hB3, hb3⟩
          have HV2 : Hid (Lib.IsBuilder 128 5 g g (Lib.byteCells (ctL r 4)) w3) := hide (Or.inr hB3)
          have HB2 : Hid (Below w.heap.size w w3) := hide (hb.out.trans (hb3.mono (by rw [HG.out]; exact Nat.le_refl _)))
          clear hB3 hb3
          go_wp2_with fail
          exact ⟨⟨4, rfl, by omega, HV2, HB2⟩, by simp [RowKit.intOf]⟩
    · obtain rfl : i = 4 := by omega
      have hsz : g ≤ wr.heap.size := by rw [← HG.out]; exact hb.out.size
      have HLEN := hide (Tryz.Builder_Len g g (Lib.byteCells (ctL r 4)) wr hV.out)
      have HSTR := fun (W : World) (hW : Lib.IsBuilder 128 5 g g (Lib.byteCells (ctL r 4)) W) (hs : g ≤ W.heap.size) => Tryz.Builder_String_any g g (ctL r 4) W hW hs
      have HSTR := hide HSTR
      go_wp2_with fail
      refine HLEN.out.mono ?_
      rw [Lib.byteCells_length]
      rintro e w2 ⟨rfl, rfl⟩
      clear HLEN
      by_cases hz : ctL r 4 = []
      · have HT : Hid (ctT r = ⟨#[45]⟩) := hide (by unfold ctT; rw [if_pos hz])
        rw [hz]
        go_wp2_with fail
        go_ret
        exact ⟨by rw [HT.out]; rfl, hb.out⟩
      · have HT : Hid (ctT r = ⟨(ctL r 4).toArray⟩) := hide (by unfold ctT; rw [if_neg hz])
        have hn : ¬ ((ctL r 4).length : Int) = 0 := by
          intro h
          exact hz (List.length_eq_zero_iff.1 (by omega))
        have HS2 := hide (HSTR.out _ hV.out hsz)
        clear hz
        go_wp2_with fail
        refine HS2.out.mono ?_
        rintro e w3 ⟨rfl, hb3⟩
        go_wp2_with fail
        go_ret
        exact ⟨by rw [HT.out]; rfl, hb.out.trans (hb3.mono (by rw [HG.out]; exact Nat.le_refl _))⟩

end Go.Proofs.YtdmlamnonbmboaaGreatDoor
