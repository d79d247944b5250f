/-
  A board as it came in becomes a board of the program's. No conditions beyond those that each theorem bears.
-/
import Derived.Test.YtmdnoiebodaikaaMn
namespace Go.Proofs.Ytmdnoiebodaikaa
open Go.RowKit

def z16 : List Int := List.replicate 16 0

set_option maxHeartbeats 1000000 in
theorem seen_any (a : Option Addr) (c p t : Nat) (S : List Int) (hp : p ≤ 6) (w : World) (hR : Rd w a (2 * (p + 1)) c S) :
    Calls Try.prog 25 #[.agg (mA a (2 * (p + 1)) c t)] w fun e w' => e = .returned (bv (pad S) p t) ∧ Below w.heap.size w w' := by
  obtain ⟨n, hn⟩ : ∃ n, 2 * (p + 1) = n := ⟨_, rfl⟩
  rw [hn] at hR ⊢
  have hn14 : n ≤ 14 := by omega
  have hq2 : (n : Int) / 2 = ((p + 1 : Nat) : Int) := by omega
  have hq3 : ((p + 1 : Nat) : Int) - 1 = (p : Int) := by omega
  have HL := hide hR.len
  obtain ⟨sb, off, rfl, hc⟩ := hR.cells (by omega)
  have hsb : sb < w.heap.size := by have := World.block_lt_of_cell? w _ (hc 0 (by omega)); exact this
  obtain ⟨w0, hw0⟩ : ∃ w0, ((w.alloc (Obj.cells (mA (some ⟨sb, off, none⟩) n c t) 24)).alloc (Obj.cells (ivs z16).toArray 46)).alloc (Obj.cells (ivs (bdL (List.replicate 14 0) p t)).toArray 46) = w0 := ⟨_, rfl⟩
  have M0 : Mn w0 w.heap.size (some ⟨sb, off, none⟩) n c t := by rw [← hw0]; exact ((Mn.new w _ _ _ _).old _).old _
  have Z1 : Blk w0 (w.heap.size + 1) 46 z16 := by
    rw [← hw0]
    have := Blk.new (w.alloc (Obj.cells (mA (some ⟨sb, off, none⟩) n c t) 24)) 46 z16 _ rfl
    rw [World.size_alloc] at this
    exact this.old _
  have Z2 : Blk w0 (w.heap.size + 2) 46 (bdL (List.replicate 14 0) p t) := by
    rw [← hw0]
    have := Blk.new ((w.alloc (Obj.cells (mA (some ⟨sb, off, none⟩) n c t) 24)).alloc (Obj.cells (ivs z16).toArray 46)) 46 (bdL (List.replicate 14 0) p t) _ rfl
    rw [World.size_alloc, World.size_alloc] at this
    exact this
  have B0 : Below w.heap.size w w0 := by rw [← hw0]; exact (((Below.refl _ w).alloc (Nat.le_refl _) _).alloc (by simp) _).alloc (by simp; omega) _
  have HM0 := hide M0
  have HZ1 := hide Z1
  have HZ2 := hide Z2
  have HB0 := hide B0
  have HC := hide hc
  have HZL : Hid (z16.length = 16) := hide rfl
  have HBL : Hid ((bdL (List.replicate 14 0) p t).length = 16) := hide (bdL_length _ p t rfl)
  have m0 : (w.alloc (Obj.cells (mA (some ⟨sb, off, none⟩) n c t) 24)).cell? ⟨w.heap.size, 0, none⟩ = some (.slice (some ⟨sb, off, none⟩) n c) := (Mn.new w _ _ _ _).seeds
  clear M0 Z1 Z2 B0 hc hR m0
  have hw0' : ((w.alloc (Obj.cells (mA (some ⟨sb, off, none⟩) n c t) 24)).alloc (Obj.cells #[.int .i64 0, .int .i64 0, .int .i64 0, .int .i64 0, .int .i64 0, .int .i64 0, .int .i64 0, .int .i64 0, .int .i64 0, .int .i64 0, .int .i64 0, .int .i64 0, .int .i64 0, .int .i64 0, .int .i64 0, .int .i64 0] 46)).alloc (Obj.cells #[.int .i64 0, .int .i64 0, .int .i64 0, .int .i64 0, .int .i64 0, .int .i64 0, .int .i64 0, .int .i64 0, .int .i64 0, .int .i64 0, .int .i64 0, .int .i64 0, .int .i64 0, .int .i64 0, .int .i64 p, .int .i64 t] 46) = w0 := hw0
  clear hw0
  go_enter Try.func25, Try.ntmps25
  go_wp2_with fail
  obtain ⟨b, hbe⟩ : ∃ b, w.heap.size = b := ⟨_, rfl⟩
  rw [hbe] at HM0 HZ1 HZ2 ⊢
  have Z2d : Blk w0.drew (b + 2) 46 (bdL (List.replicate 14 0) p t) := HZ2.out
  obtain ⟨w1, hrun, G1, hk1⟩ := copy_ints w0.drew (b + 2) 46 14 14 ⟨sb, off, none⟩ n c (bdL (List.replicate 14 0) p t) S Z2d (by rw [HL.out]; exact (Nat.min_eq_left hn14).symm) (fun j hj => by
    rw [Addr.add_lit]
    rw [HL.out] at hj
    exact (HB0.out.cell (p := ⟨sb, off + j, none⟩) hsb).trans (HC.out j hj)) (by rw [HL.out, HBL.out]; omega)
  have hk1' : Keeps (fun k => k = b + 2) w0 w1 := (Keeps.refl _ w0).drew.trans hk1
  have e1 : S ++ (bdL (List.replicate 14 0) p t).drop S.length = bdL (pad S) p t := by
    rw [bdL, bdL, pad, List.drop_append_of_le_length (by rw [List.length_replicate, HL.out]; omega), List.drop_replicate, List.append_assoc]
  rw [e1] at G1
  have hrun1 := hrun 3
  rw [HL.out] at hrun1
  have m0 := HM0.out.seeds
  have HZ3 := hide (HZ1.out.keeps hk1' (by omega))
  have HG1 := hide G1
  have HPL : Hid ((bdL (pad S) p t).length = 16) := hide (bdL_length _ p t (pad_length S (by rw [HL.out]; exact hn14)))
  have HB1 : Hid (Below w.heap.size w w1) := hide (HB0.out.trans (hk1'.below HB0.out.size (fun k hk e => by omega)))
  clear hrun G1 e1 hk1 hk1' Z2d hw0'
  have HBE := hide hbe
  clear hbe
  go_region
  go_wp2_with (first
    | refine wpList_load_bd rfl _ rfl (b + 2) rfl (bdL (pad S) p t) HPL.out HG1.out ?_
    | refine wpList_store_bd rfl _ _ rfl (b + 1) (bdL (pad S) p t) z16 HPL.out HZL.out rfl rfl HZ3.out ?_)
  intro w2 hb2 hk2
  go_wp2_with fail
  refine bodyPost_ret (results_bd rfl _ _ (b + 1) rfl (bdL (pad S) p t) HPL.out hb2) rfl ⟨rfl, ?_⟩
  exact HB1.out.trans (hk2.below HB1.out.size (fun k hk e => by have := HBE.out; omega))

end Go.Proofs.Ytmdnoiebodaikaa
