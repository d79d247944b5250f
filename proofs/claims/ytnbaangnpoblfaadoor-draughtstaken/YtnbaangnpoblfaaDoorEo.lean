/-
  The places of a set, one by one, handed to rounds that own memory. No conditions beyond those that each theorem bears.
-/
import Derived.Test.YtnbaangnpoblfaaDoorRo
import Derived.Test.YtnbaangnpoblfaaDoorEa
namespace Go.Proofs.YtnbaangnpoblfaaDoor
open Go.RowKit Go.Shelf

attribute [local irreducible] bln From
attribute [local go_sem] Oper.semAt_some wide_fn wide_fn0 wide_depth

set_option maxRecDepth 100000 in
set_option maxHeartbeats 4000000 in
theorem each1_o (bp M : Nat) (hM : M < 2 ^ 64) :
    SeqO Tryd.prog 83 #[.pointer (some ⟨bp, 0, none⟩)] EaG (bln M 64) (EaR bp M) (fun k => k = bp) := by
  intro l J Jx N0 W O0 hR hN hC hY h0
  have HR := hide hR
  have HY := hide hY
  have HC := hide hC
  have HJ0 := hide h0
  have HN := hide hN
  have cp : W.cell? ⟨bp, 0, none⟩ = some (.int .u64 (M : Nat)) := hR
  have HBP : Hid (bp < W.heap.size) := hide (World.block_lt_of_cell? W _ hR)
  clear hR hY h0 hC hN
  refine callsIn_of_wp Tryd.func83 rfl trivial ?_ rfl
  simp only [Tryd.ntmps83, List.size_toArray, List.length_cons, List.length_nil, Nat.reduceAdd, Nat.reduceSub, Array.replicate_succ, Array.replicate_zero, List.push_toArray, List.append_toArray, List.nil_append, List.cons_append]
  refine wpIn_wide.2 ?_
  go_wp2_with fail
  clear cp
  have HM := hide hM
  clear hM
  go_loopw [3] (fun v wr => ∃ r lo : Nat, v = .int .u64 r ∧ lo ≤ 64 ∧ Hid (r < 2 ^ 64) ∧ Hid (From M r lo) ∧ Hid (∃ O, J O (bln M lo) wr ∧ (∀ k, k < W.heap.size → O k → O0 k)) ∧ Hid (Keeps O0 W wr)) (fun v _ => (intOf v).toNat)
  case atStart => exact ⟨M, 0, rfl, by omega, HM, hide (from_zero M), hide ⟨O0, by rw [bln_zero]; exact HJ0.out, fun _ _ h => h⟩, hide (Keeps.refl _ _)⟩
  case round =>
    obtain ⟨r, lo, rfl, hlo, hrb, hF, hJr, hKr⟩ := hrel
    clear HJ0 HR
    by_cases hr : r = 0
    · subst hr
      have HE : Hid (∃ O, J O (bln M 64) wr ∧ (∀ k, k < W.heap.size → O k → O0 k)) := hide (by rw [← bln_end hF.out hlo]; exact hJr.out)
      have hz : (((0 : Nat) : Int) != 0) = false := by rfl
      clear hJr hF
      go_wp2_with fail
      refine bodyPost_end (results_none rfl _ _ _) rfl ?_
      obtain ⟨O, h1, h2⟩ := HE.out
      exact ⟨⟨_, rfl⟩, hKr.out, O, h2, .inl h1⟩
    · have hz : ((r : Int) != 0) = true := u64_ne hr
      obtain ⟨k, q, hk⟩ := low_split r hr
      obtain ⟨e1, e2, hk64⟩ := low_facts hrb.out hk
      have HST := hide (from_step M r lo k q hF.out hk)
      have HB := hide (bln_step hF.out hk)
      have HPP : Hid ((bln M lo ++ [k]) <+: bln M 64) := hide (by rw [← HB.out]; exact bln_pre (by omega))
      obtain ⟨d, hd⟩ : ∃ d, r &&& (r - 1) = d := ⟨_, rfl⟩
      rw [hd] at e2 HST
      have HDL : Hid (d < r) := hide (by rw [← hd]; have := Nat.and_le_right (n := r) (m := r - 1); omega)
      obtain ⟨K2, hK2⟩ : ∃ K2, (2 ^ k : Nat) = K2 := ⟨_, rfl⟩
      rw [hK2] at e1
      obtain ⟨O, hJO, hOm⟩ := hJr.out
      have HOM := hide hOm
      obtain ⟨fn, tmps, assign, body, hy, hRR⟩ := YieldAt.anyD (m' := 0) (HY.out O (bln M lo) k #[.int .u64 (K2 : Nat)] wr hJO HPP.out (by rw [← hK2]; rfl) (Nat.le_trans HN.out hKr.out.size))
      clear hd hK2 hk hOm hJO hJr
      refine (wpIn_wide (n := 1)).1 ?_
      gi_wp2
      refine hRR.mono ?_
      rintro e W3 ⟨hk3, O', hO', h3⟩
      have HK3 : Hid (Keeps O0 W W3) := hide ⟨hk3.os.trans hKr.out.os, hk3.tape.trans hKr.out.tape, hk3.output.trans hKr.out.output, Nat.le_trans hKr.out.size hk3.size, fun i hi hx => (hk3.block i (Nat.lt_of_lt_of_le hi hKr.out.size) (fun h => hx (HOM.out i hi h))).trans (hKr.out.block i hi hx)⟩
      have HO3 : Hid (∀ k, k < W.heap.size → O' k → O0 k) := hide (fun k hk h => HOM.out k hk (hO' k (Nat.lt_of_lt_of_le hk hKr.out.size) h))
      clear hy hRR hKr hk3 hO' HOM
      rcases h3 with ⟨rfl, hJ3⟩ | ⟨rfl, hJ3⟩
      · have HJ3 := hide hJ3
        clear hJ3
        gi_wp2
        refine ⟨⟨d, k + 1, rfl, by omega, hide (Nat.lt_trans HDL.out hrb.out), hide HST.out.2.2.2, hide ⟨O', by rw [HB.out]; exact HJ3.out, HO3.out⟩, HK3⟩, ?_⟩
        simp only [intOf, Int.toNat_natCast]
        exact HDL.out
      · have HJ3 := hide hJ3
        clear hJ3
        gi_wp2
        refine bodyPost_ret (results_none rfl _ _ _) rfl ?_
        exact ⟨⟨_, rfl⟩, HK3.out, O', HO3.out, .inr HJ3.out⟩

end Go.Proofs.YtnbaangnpoblfaaDoor
